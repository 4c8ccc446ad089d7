/- For every number of 128 bits and every one of 64 bits WideParts answers true: how often the second goes into the first, times it, and what is left, is the first again. No condition. -/
import Derived.Test.YtfohfpeeghnocaaFWideParts
import Derived.Test.YtfohfpeeghnocaaParts
namespace Go.Proofs.Ytfohfpeeghnocaa

theorem wideParts_holds : Rows.WidePartsSaid := wideParts_of parts_walk

end Go.Proofs.Ytfohfpeeghnocaa
