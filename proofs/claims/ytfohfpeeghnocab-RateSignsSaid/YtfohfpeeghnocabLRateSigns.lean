/- For every two floats RateSigns answers true: a number and its negative are as far from One, on either side; noughts are One; the greater number has no lesser rate. No condition. -/
import Derived.Test.YtfohfpeeghnocabFRateSigns
import Derived.Test.YtfohfpeeghnocabSigns
namespace Go.Proofs.Ytfohfpeeghnocab

theorem rateSigns_holds : Rows.RateSignsSaid := rateSigns_of signs_walk

end Go.Proofs.Ytfohfpeeghnocab
