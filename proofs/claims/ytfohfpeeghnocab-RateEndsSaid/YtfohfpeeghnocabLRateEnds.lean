/- For every list of floats RateEnds answers true: the least and the greatest of them, and how many are numbers, are the document's. No condition. -/
import Derived.Test.YtfohfpeeghnocabFRateEnds
import Derived.Test.YtfohfpeeghnocabEndsLaw
namespace Go.Proofs.Ytfohfpeeghnocab

theorem rateEnds_holds : Rows.RateEndsSaid := rateEnds_of ends_walk

end Go.Proofs.Ytfohfpeeghnocab
