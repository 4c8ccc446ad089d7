/- For every two ints StampGrains answers true: whole nanoseconds, and what a clock tells that counts some at once, are as the reference has them. No condition. -/
import Derived.Test.YtglmkjnhkjljpaaFStampGrains
import Derived.Test.YtglmkjnhkjljpaaLaws1
namespace Go.Proofs.Ytglmkjnhkjljpaa

theorem stampGrains_holds : Rows.StampGrainsSaid := stampGrains_of grains_walk

end Go.Proofs.Ytglmkjnhkjljpaa
