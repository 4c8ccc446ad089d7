/- For every slice of ints and every two ints StampMiddles answers true: the middle one of the times is as the reference has it, and a time is brought between two as the document says. No condition. -/
import Derived.Test.YtglmkjnhkjljpaaFStampMiddles
import Derived.Test.YtglmkjnhkjljpaaMiddles
namespace Go.Proofs.Ytglmkjnhkjljpaa

theorem stampMiddles_holds : Rows.StampMiddlesSaid := stampMiddles_of mids_walk

end Go.Proofs.Ytglmkjnhkjljpaa
