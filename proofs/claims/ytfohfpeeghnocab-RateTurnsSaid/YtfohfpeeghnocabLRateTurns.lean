/- For every int RateTurns answers true: turned round twice a right rate is what it was, but for one part, and by its other way it is One, but for one part. No condition. -/
import Derived.Test.YtfohfpeeghnocabFRateTurns
import Derived.Test.YtfohfpeeghnocabRTurns
namespace Go.Proofs.Ytfohfpeeghnocab

theorem rateTurns_holds : Rows.RateTurnsSaid := rateTurns_of turns_walk

end Go.Proofs.Ytfohfpeeghnocab
