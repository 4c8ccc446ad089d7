/- For every slice of bytes FcsSums answers true: the check of the bytes, and them with it, as the reference has them; what was handed in is as it was. No condition. -/
import Derived.Test.YtglmkjnhkjljpabFFcsSums
import Derived.Test.YtglmkjnhkjljpabFHead
namespace Go.Proofs.Ytglmkjnhkjljpab

theorem fcsSums_holds : Rows.FcsSumsSaid := fcsSums_of sums_walk

end Go.Proofs.Ytglmkjnhkjljpab
