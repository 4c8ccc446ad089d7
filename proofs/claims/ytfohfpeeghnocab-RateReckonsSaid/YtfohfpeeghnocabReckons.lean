/- RateReckons: rates by each other, turned round, and of how far two clocks have come. -/
import Derived.Test.YtfohfpeeghnocabROf
namespace Go.Proofs.Ytfohfpeeghnocab
open Go.RowKit

set_option maxHeartbeats 1000000 in
theorem reckons_go (r s v1 e1 v2 e2 v3 e3 : Int)
    (H0 : Ret 10 #[] (.bool true))
    (H1 : Ret 24 #[.int .i64 r, .int .i64 s] (.tuple #[.int .i64 v1, .int .i64 e1]))
    (H2 : Ret 25 #[.int .i64 r, .int .i64 s, .int .i64 2199023255552, .int .i64 2] (.tuple #[.int .i64 v1, .int .i64 e1]))
    (H3 : Ret 26 #[.int .i64 r] (.tuple #[.int .i64 v2, .int .i64 e2]))
    (H4 : Ret 25 #[.int .i64 2199023255552, .int .i64 2199023255552, .int .i64 r, .int .i64 2] (.tuple #[.int .i64 v2, .int .i64 e2]))
    (H5 : Ret 27 #[.int .i64 r, .int .i64 s] (.tuple #[.int .i64 v3, .int .i64 e3]))
    (H6 : Ret 28 #[.int .i64 r, .int .i64 s] (.tuple #[.int .i64 v3, .int .i64 e3])) (w : World) :
    Calls Try.prog 5 #[.int .i64 r, .int .i64 s] w fun e w' => e = .returned (.bool true) ∧ Below w.heap.size w w' := by
  have HH := bRef w
  go_enter Try.func5, Try.ntmps5
  go_wp2_with (first
    | (go_at_call 10; (with_reducible refine (H0.go _).mono ?_); rintro e wx ⟨rfl, hb⟩; (first | replace HH := bTr HH hb | replace HH := bTr (bDr HH _) hb); clear hb)
    | (go_at_call 24; (with_reducible refine (H1.go _).mono ?_); rintro e wx ⟨rfl, hb⟩; (first | replace HH := bTr HH hb | replace HH := bTr (bDr HH _) hb); clear hb)
    | (go_at_call 25; (with_reducible refine (H2.go _).mono ?_); rintro e wx ⟨rfl, hb⟩; (first | replace HH := bTr HH hb | replace HH := bTr (bDr HH _) hb); clear hb)
    | (go_at_call 26; (with_reducible refine (H3.go _).mono ?_); rintro e wx ⟨rfl, hb⟩; (first | replace HH := bTr HH hb | replace HH := bTr (bDr HH _) hb); clear hb)
    | (go_at_call 25; (with_reducible refine (H4.go _).mono ?_); rintro e wx ⟨rfl, hb⟩; (first | replace HH := bTr HH hb | replace HH := bTr (bDr HH _) hb); clear hb)
    | (go_at_call 27; (with_reducible refine (H5.go _).mono ?_); rintro e wx ⟨rfl, hb⟩; (first | replace HH := bTr HH hb | replace HH := bTr (bDr HH _) hb); clear hb)
    | (go_at_call 28; (with_reducible refine (H6.go _).mono ?_); rintro e wx ⟨rfl, hb⟩; (first | replace HH := bTr HH hb | replace HH := bTr (bDr HH _) hb); clear hb))
  go_ret
  exact ⟨by simp, HH⟩

theorem reckons_walk (r s : Int) (h1 : -9223372036854775808 ≤ r) (h2 : r < 9223372036854775808) (h3 : -9223372036854775808 ≤ s) (h4 : s < 9223372036854775808) (w : World) :
    Calls Try.prog 5 #[.int .i64 r, .int .i64 s] w fun e w' => e = .returned (.bool true) ∧ Below w.heap.size w w' := by
  have hr : In64 r := ⟨h1, h2⟩
  have hs : In64 s := ⟨h3, h4⟩
  have hk : In64 2199023255552 := ⟨by omega, by omega⟩
  exact reckons_go r s _ _ _ _ _ _ made_ret (rMul_ret hr hs) (refmd_ret 2 hr hs hk) (rInv_ret hr) (refmd_ret 2 hk hk hr) (bt_ret hr hs) (rbt_ret hr hs) w

end Go.Proofs.Ytfohfpeeghnocab
