/- For all bytes, places and one byte more PtpForm answers true: bytes are a message's own or refused; cut off, or with one more, they are none. No condition. -/
import Derived.Test.YtbpkjljienadiabFPtpForm
import Derived.Test.YtbpkjljienadiabPtFormW
namespace Go.Proofs.Ytbpkjljienadiab

theorem ptpForm_holds : Rows.PtpFormSaid := ptpForm_of form_walk

end Go.Proofs.Ytbpkjljienadiab
