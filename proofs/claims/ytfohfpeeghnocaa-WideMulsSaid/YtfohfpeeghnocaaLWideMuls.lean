/- For every two numbers of 64 bits WideMuls answers true: their product is the document's, digit by digit. No condition. -/
import Derived.Test.YtfohfpeeghnocaaFWideMuls
import Derived.Test.YtfohfpeeghnocaaSame
namespace Go.Proofs.Ytfohfpeeghnocaa

theorem wideMuls_holds : Rows.WideMulsSaid := wideMuls_of muls_walk

end Go.Proofs.Ytfohfpeeghnocaa
