/- The document's example of package meter. -/
import Derived.Test.YtjkgeoipkcjobaaMtIn
import Derived.Test.YtjkgeoipkcjobaaMtNew
namespace Go.Proofs.Ytjkgeoipkcjobaa
open Go.RowKit Go.Joins

def h0 : MS := M0 8 80 0 0 0 false false false
theorem told1 : h0.told 0 10 false = 0 := by decide
theorem told2 : (h0.into 0 10 false).told 0 1 false = 2 := by decide
theorem told3 : ((h0.into 0 10 false).into 0 1 false).told 1000000000 1 false = 0 := by decide
set_option maxHeartbeats 1000000 in
theorem head_ret (w : World) : Calls Try.prog 8 #[] w fun e w' => e = .returned (.bool true) ∧ Below w.heap.size w w' := by
  have ok : okC 8 80 0 0 := by decide
  have g0 : h0.Good := M0_good ok (by decide) (by decide)
  have HN := Lib.hid (fun W => new_ok 8 80 0 0 0 false false false W ok (by decide) (by decide))
  have g1 : (h0.into 0 10 false).Good := g0.into (by decide) (by decide) (by decide) false
  have g2 : ((h0.into 0 10 false).into 0 1 false).Good := g1.into (by decide) (by decide) (by decide) false
  have H1 : Hid (∀ W b, Mtr W b h0 → Calls Try.prog 11 #[.pointer (some ⟨b, 0, none⟩), .int .i64 0, .int .i64 10, .bool false] W fun e w' => e = .returned (.tuple #[.int .i64 0, .int .i64 0]) ∧ Mtr w' b (h0.into 0 10 false) ∧ ButB b W w') := Lib.hid (fun W b h => by
    have k := in_ok h g0 0 10 false (by decide) (by decide) (by decide) (by decide)
    rw [told1] at k; exact k)
  have H2 : Hid (∀ W b, Mtr W b (h0.into 0 10 false) → Calls Try.prog 11 #[.pointer (some ⟨b, 0, none⟩), .int .i64 0, .int .i64 1, .bool false] W fun e w' => e = .returned (.tuple #[.int .i64 2, .int .i64 0]) ∧ Mtr w' b ((h0.into 0 10 false).into 0 1 false) ∧ ButB b W w') := Lib.hid (fun W b h => by
    have k := in_ok h g1 0 1 false (by decide) (by decide) (by decide) (by decide)
    rw [told2] at k; exact k)
  have H3 : Hid (∀ W b, Mtr W b ((h0.into 0 10 false).into 0 1 false) → Calls Try.prog 11 #[.pointer (some ⟨b, 0, none⟩), .int .i64 1000000000, .int .i64 1, .bool false] W fun e w' => e = .returned (.tuple #[.int .i64 0, .int .i64 0]) ∧ Mtr w' b (((h0.into 0 10 false).into 0 1 false).into 1000000000 1 false) ∧ ButB b W w') := Lib.hid (fun W b h => by
    have k := in_ok h g2 1000000000 1 false (by decide) (by decide) (by decide) (by decide)
    rw [told3] at k; exact k)
  clear ok g0 g1 g2
  go_enter Try.func8, Try.ntmps8
  go_wp2_with (first
    | (go_at_call 9; (with_reducible refine (HN.out _).mono ?_); rintro e w1 ⟨b, rfl, hm, hb0, hb⟩; have HM := Lib.hid hm; have HB := Lib.hid hb; have HBB := Lib.hid hb0; clear hm hb hb0)
    | (go_at_call 11; (with_reducible refine (H1.out _ _ HM.out).mono ?_); rintro e w2 ⟨rfl, hm, hb⟩; have HM2 := Lib.hid hm; have HB2 := Lib.hid (hb.below HBB.out HM.out.lt); clear hm hb)
    | (go_at_call 11; (with_reducible refine (H2.out _ _ HM2.out).mono ?_); rintro e w3 ⟨rfl, hm, hb⟩; have HM3 := Lib.hid hm; have HB3 := Lib.hid (hb.below HBB.out HM2.out.lt); clear hm hb)
    | (go_at_call 11; (with_reducible refine (H3.out _ _ HM3.out).mono ?_); rintro e w4 ⟨rfl, hm, hb⟩; have HB4 := Lib.hid (hb.below HBB.out HM3.out.lt); clear hm hb))
  go_ret
  exact ⟨rfl, ((HB.out.trans HB2.out).trans HB3.out).trans HB4.out⟩

end Go.Proofs.Ytjkgeoipkcjobaa
