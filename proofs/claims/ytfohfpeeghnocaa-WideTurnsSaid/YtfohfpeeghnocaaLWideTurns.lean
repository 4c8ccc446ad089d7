/- For every two numbers of 128 bits WideTurns answers true: their sum, taken either way round, is one number or refused with the same error, and less the second one it is the first. No condition. -/
import Derived.Test.YtfohfpeeghnocaaFWideTurns
import Derived.Test.YtfohfpeeghnocaaTurns
namespace Go.Proofs.Ytfohfpeeghnocaa

theorem wideTurns_holds : Rows.WideTurnsSaid := wideTurns_of turns_walk

end Go.Proofs.Ytfohfpeeghnocaa
