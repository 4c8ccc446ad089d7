/- For every two ints StampNear answers true: what a clock tells is never later than it is, less than its grain earlier, and told again the same. No condition. -/
import Derived.Test.YtglmkjnhkjljpaaFStampNear
import Derived.Test.YtglmkjnhkjljpaaLaws2
namespace Go.Proofs.Ytglmkjnhkjljpaa

theorem stampNear_holds : Rows.StampNearSaid := stampNear_of near_walk

end Go.Proofs.Ytglmkjnhkjljpaa
