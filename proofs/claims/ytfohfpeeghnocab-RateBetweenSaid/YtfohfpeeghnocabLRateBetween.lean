/- For every three ints RateBetween answers true: of two clocks that come nearly as far the one that came further has the greater rate, and turned round it is the other one's, but for a part or two. No condition. -/
import Derived.Test.YtfohfpeeghnocabFRateBetween
import Derived.Test.YtfohfpeeghnocabBtw
namespace Go.Proofs.Ytfohfpeeghnocab

theorem rateBetween_holds : Rows.RateBetweenSaid := rateBetween_of btw_walk

end Go.Proofs.Ytfohfpeeghnocab
