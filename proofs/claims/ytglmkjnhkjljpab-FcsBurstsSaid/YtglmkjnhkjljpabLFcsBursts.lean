/- For every slice of bytes, every place and every 32 bits FcsBursts answers true: a closed text of which such a run was turned is opened just where nothing was turned. No condition. -/
import Derived.Test.YtglmkjnhkjljpabFFcsBursts
import Derived.Test.YtglmkjnhkjljpabBursts
namespace Go.Proofs.Ytglmkjnhkjljpab

theorem fcsBursts_holds : Rows.FcsBurstsSaid := fcsBursts_of bursts_walk

end Go.Proofs.Ytglmkjnhkjljpab
