/- For every message and every kind PtpKinds answers true: a message has just the bytes of its kind, and another kind is refused. No condition. -/
import Derived.Test.YtbpkjljienadiabFPtpKinds
import Derived.Test.YtbpkjljienadiabPtKindsW
namespace Go.Proofs.Ytbpkjljienadiab

theorem ptpKinds_holds : Rows.PtpKindsSaid := ptpKinds_of kinds_walk

end Go.Proofs.Ytbpkjljienadiab
