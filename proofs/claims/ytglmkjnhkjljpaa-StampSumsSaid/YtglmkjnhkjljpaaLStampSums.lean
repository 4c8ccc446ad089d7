/- For every two ints StampSums answers true: nanoseconds, sums and differences of times, or that they do not fit, are as the reference has them. No condition. -/
import Derived.Test.YtglmkjnhkjljpaaFStampSums
import Derived.Test.YtglmkjnhkjljpaaLaws1
namespace Go.Proofs.Ytglmkjnhkjljpaa

theorem stampSums_holds : Rows.StampSumsSaid := stampSums_of sums_walk

end Go.Proofs.Ytglmkjnhkjljpaa
