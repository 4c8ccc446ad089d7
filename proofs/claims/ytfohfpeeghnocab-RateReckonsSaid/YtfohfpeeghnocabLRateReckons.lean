/- For every two ints RateReckons answers true: one rate by another one, turned round, and of how far two clocks have come, are the document's. No condition. -/
import Derived.Test.YtfohfpeeghnocabFRateReckons
import Derived.Test.YtfohfpeeghnocabReckons
namespace Go.Proofs.Ytfohfpeeghnocab

theorem rateReckons_holds : Rows.RateReckonsSaid := rateReckons_of reckons_walk

end Go.Proofs.Ytfohfpeeghnocab
