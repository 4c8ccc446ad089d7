/- For every two ints StampBack answers true: a sum taken apart again is what it was. No condition. -/
import Derived.Test.YtglmkjnhkjljpaaFStampBack
import Derived.Test.YtglmkjnhkjljpaaLaws2
namespace Go.Proofs.Ytglmkjnhkjljpaa

theorem stampBack_holds : Rows.StampBackSaid := stampBack_of back_walk

end Go.Proofs.Ytglmkjnhkjljpaa
