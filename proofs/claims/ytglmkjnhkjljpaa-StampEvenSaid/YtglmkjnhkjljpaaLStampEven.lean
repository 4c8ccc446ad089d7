/- For every slice of ints and every two ints StampEven answers true: the middle one of some times is one of them, no more than half of them lie on either side, and by a rate and its other way a time is what it was but for some parts. No condition. -/
import Derived.Test.YtglmkjnhkjljpaaFStampEven
import Derived.Test.YtglmkjnhkjljpaaEven
namespace Go.Proofs.Ytglmkjnhkjljpaa

theorem stampEven_holds : Rows.StampEvenSaid := stampEven_of even_walk

end Go.Proofs.Ytglmkjnhkjljpaa
