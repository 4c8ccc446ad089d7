/- For every slice of bytes FcsOpens answers true: Open takes them just where the reference says that their check fits, hands back what stands ahead of it, and that in memory of its own. No condition. -/
import Derived.Test.YtglmkjnhkjljpabFFcsOpens
import Derived.Test.YtglmkjnhkjljpabOpens
namespace Go.Proofs.Ytglmkjnhkjljpab

theorem fcsOpens_holds : Rows.FcsOpensSaid := fcsOpens_of opens_walk

end Go.Proofs.Ytglmkjnhkjljpab
