/- For every two numbers of 128 bits WideAdds answers true: their sum, their difference, and which is greater are the document's, digit by digit; what is 2 to the power of 128 or more, or below 0, is refused. No condition. -/
import Derived.Test.YtfohfpeeghnocaaFWideAdds
import Derived.Test.YtfohfpeeghnocaaAdds
namespace Go.Proofs.Ytfohfpeeghnocaa

theorem wideAdds_holds : Rows.WideAddsSaid := wideAdds_of adds_walk

end Go.Proofs.Ytfohfpeeghnocaa
