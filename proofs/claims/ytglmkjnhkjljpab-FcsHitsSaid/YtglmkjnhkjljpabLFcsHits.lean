/- For every slice of bytes and every place FcsHits answers true: one bit that was turned is found. No condition. -/
import Derived.Test.YtglmkjnhkjljpabFFcsHits
import Derived.Test.YtglmkjnhkjljpabHits
namespace Go.Proofs.Ytglmkjnhkjljpab

theorem fcsHits_holds : Rows.FcsHitsSaid := fcsHits_of hits_walk

end Go.Proofs.Ytglmkjnhkjljpab
