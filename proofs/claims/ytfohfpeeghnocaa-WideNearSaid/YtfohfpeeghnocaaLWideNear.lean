/- For every three ints WideNear answers true: rounded down is not above rounded near, which is not above rounded up, and the ends are one apart at most. No condition. -/
import Derived.Test.YtfohfpeeghnocaaFWideNear
import Derived.Test.YtfohfpeeghnocaaNear
namespace Go.Proofs.Ytfohfpeeghnocaa

theorem wideNear_holds : Rows.WideNearSaid := wideNear_of near_walk

end Go.Proofs.Ytfohfpeeghnocaa
