/- For every frame and all bytes EtherSizes answers true: a frame with more data is no shorter, a tag costs four bytes, a number six. No condition. -/
import Derived.Test.YtbpkjljienadiaaFEtherSizes
import Derived.Test.YtbpkjljienadiaaESizesW
namespace Go.Proofs.Ytbpkjljienadiaa

theorem etherSizes_holds : Rows.EtherSizesSaid := etherSizes_of sizes_walk

end Go.Proofs.Ytbpkjljienadiaa
