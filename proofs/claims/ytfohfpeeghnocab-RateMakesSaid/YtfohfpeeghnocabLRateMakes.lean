/- For every float RateMakes answers true: its rate, or why there is none, is the document's, and a rate that is made is right. No condition. -/
import Derived.Test.YtfohfpeeghnocabFRateMakes
import Derived.Test.YtfohfpeeghnocabMakes
namespace Go.Proofs.Ytfohfpeeghnocab

theorem rateMakes_holds : Rows.RateMakesSaid := rateMakes_of makes_walk

end Go.Proofs.Ytfohfpeeghnocab
