/- For every number of 64 bits and every int WidePowers answers true: the product with 2 to the power of n (its lowest six bits) is the number moved by as much, either way round. No condition. -/
import Derived.Test.YtfohfpeeghnocaaFWidePowers
import Derived.Test.YtfohfpeeghnocaaPowers
namespace Go.Proofs.Ytfohfpeeghnocaa

theorem widePowers_holds : Rows.WidePowersSaid := widePowers_of powers_walk

end Go.Proofs.Ytfohfpeeghnocaa
