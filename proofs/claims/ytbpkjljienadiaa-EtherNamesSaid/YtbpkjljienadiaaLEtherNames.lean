/- For every address and every number EtherNames answers true: an address's number is its bytes', the first the highest, and the address of a number that of its lowest 48 bits. No condition. -/
import Derived.Test.YtbpkjljienadiaaFEtherNames
import Derived.Test.YtbpkjljienadiaaENamesW
namespace Go.Proofs.Ytbpkjljienadiaa

theorem etherNames_holds : Rows.EtherNamesSaid := etherNames_of names_walk

end Go.Proofs.Ytbpkjljienadiaa
