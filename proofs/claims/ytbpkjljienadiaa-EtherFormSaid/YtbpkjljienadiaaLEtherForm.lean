/- For every slice of bytes EtherForm answers true: closed by their check they are a frame's, that are just its own, or refused. No condition. -/
import Derived.Test.YtbpkjljienadiaaFEtherForm
import Derived.Test.YtbpkjljienadiaaEForm
namespace Go.Proofs.Ytbpkjljienadiaa

theorem etherForm_holds : Rows.EtherFormSaid := etherForm_of form_walk

end Go.Proofs.Ytbpkjljienadiaa
