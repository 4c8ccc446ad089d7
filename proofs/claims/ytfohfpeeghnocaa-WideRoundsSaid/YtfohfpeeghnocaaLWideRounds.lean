/- For every four ints WideRounds answers true: what MulDiv answers, and its error, are the document's, in each way to round; Held is the same, but for what does not fit, which is held at the ends. No condition. -/
import Derived.Test.YtfohfpeeghnocaaFWideRounds
import Derived.Test.YtfohfpeeghnocaaRounds
namespace Go.Proofs.Ytfohfpeeghnocaa

theorem wideRounds_holds : Rows.WideRoundsSaid := wideRounds_of rounds_walk

end Go.Proofs.Ytfohfpeeghnocaa
