/- For every message PtpWrites answers true: what is written is the document's bytes, and is read as what it was. No condition. -/
import Derived.Test.YtbpkjljienadiabFPtpWrites
import Derived.Test.YtbpkjljienadiabPtWrites
namespace Go.Proofs.Ytbpkjljienadiab

theorem ptpWrites_holds : Rows.PtpWritesSaid := ptpWrites_of fun m u w hw hu => writes_walk m u w hw hu

end Go.Proofs.Ytbpkjljienadiab
