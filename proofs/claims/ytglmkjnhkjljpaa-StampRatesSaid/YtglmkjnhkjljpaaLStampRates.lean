/- For every two ints StampRates answers true: a time by a rate is as the reference has it, and by One it is what it was. No condition. -/
import Derived.Test.YtglmkjnhkjljpaaFStampRates
import Derived.Test.YtglmkjnhkjljpaaLaws1
namespace Go.Proofs.Ytglmkjnhkjljpaa

theorem stampRates_holds : Rows.StampRatesSaid := stampRates_of rates_walk

end Go.Proofs.Ytglmkjnhkjljpaa
