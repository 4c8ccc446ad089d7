/- For every int RatePpms answers true: how many millionths faster a rate is, exactly; made again it is the rate; of one that isn't right there is no number. No condition. -/
import Derived.Test.YtfohfpeeghnocabFRatePpms
import Derived.Test.YtfohfpeeghnocabPpms
namespace Go.Proofs.Ytfohfpeeghnocab

theorem ratePpms_holds : Rows.RatePpmsSaid := ratePpms_of ppms_walk

end Go.Proofs.Ytfohfpeeghnocab
