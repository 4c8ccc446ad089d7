/- For every slice of bytes FcsFirst answers true: what Hit finds is the first bit that makes the check fit. No condition. -/
import Derived.Test.YtglmkjnhkjljpabFFcsFirst
import Derived.Test.YtglmkjnhkjljpabFirst
namespace Go.Proofs.Ytglmkjnhkjljpab

theorem fcsFirst_holds : Rows.FcsFirstSaid := fcsFirst_of first_walk

end Go.Proofs.Ytglmkjnhkjljpab
