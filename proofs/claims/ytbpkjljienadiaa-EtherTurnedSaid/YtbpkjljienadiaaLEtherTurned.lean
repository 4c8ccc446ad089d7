/- For every frame and every place EtherTurned answers true: one bit of a frame's bytes that is turned makes them no frame's. No condition. -/
import Derived.Test.YtbpkjljienadiaaFEtherTurned
import Derived.Test.YtbpkjljienadiaaETurned
namespace Go.Proofs.Ytbpkjljienadiaa

theorem etherTurned_holds : Rows.EtherTurnedSaid := etherTurned_of turned_walk

end Go.Proofs.Ytbpkjljienadiaa
