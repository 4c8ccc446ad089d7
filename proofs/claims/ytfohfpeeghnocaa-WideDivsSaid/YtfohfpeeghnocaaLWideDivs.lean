/- For every number of 128 bits and every one of 64 bits WideDivs answers true: how often the second goes into the first, and what is left, are the document's, digit by digit; by 0 it is refused. No condition. -/
import Derived.Test.YtfohfpeeghnocaaFWideDivs
import Derived.Test.YtfohfpeeghnocaaDivs
namespace Go.Proofs.Ytfohfpeeghnocaa

theorem wideDivs_holds : Rows.WideDivsSaid := wideDivs_of divs_walk

end Go.Proofs.Ytfohfpeeghnocaa
