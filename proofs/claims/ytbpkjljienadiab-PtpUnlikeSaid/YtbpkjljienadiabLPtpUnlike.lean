/- For every two messages PtpUnlike answers true: unlike messages have unlike bytes. No condition. -/
import Derived.Test.YtbpkjljienadiabFPtpUnlike
import Derived.Test.YtbpkjljienadiabPtUnlike
namespace Go.Proofs.Ytbpkjljienadiab

theorem ptpUnlike_holds : Rows.PtpUnlikeSaid := ptpUnlike_of fun m u m' u' w hw hu hw' hu' => unlike_walk m u m' u' w hw hu hw' hu'

end Go.Proofs.Ytbpkjljienadiab
