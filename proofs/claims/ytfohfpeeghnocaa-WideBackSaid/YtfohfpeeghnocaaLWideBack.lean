/- For every two ints WideBack answers true: the first times the second by the second is the first, and with one sign turned its negative, in each way to round (skipped, as the statement does, where the second is 0 or one of them is the least int). No condition. -/
import Derived.Test.YtfohfpeeghnocaaFWideBack
import Derived.Test.YtfohfpeeghnocaaBack
namespace Go.Proofs.Ytfohfpeeghnocaa

theorem wideBack_holds : Rows.WideBackSaid := wideBack_of back_walk

end Go.Proofs.Ytfohfpeeghnocaa
