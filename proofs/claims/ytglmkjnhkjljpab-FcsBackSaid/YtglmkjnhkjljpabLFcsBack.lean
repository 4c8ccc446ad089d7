/- For every slice of bytes FcsBack answers true: what was closed is opened as it was, once and twice. No condition. -/
import Derived.Test.YtglmkjnhkjljpabFFcsBack
import Derived.Test.YtglmkjnhkjljpabBacks
namespace Go.Proofs.Ytglmkjnhkjljpab

theorem fcsBack_holds : Rows.FcsBackSaid := fcsBack_of back_walk

end Go.Proofs.Ytglmkjnhkjljpab
