/- Package fcs: the document's example; FcsSums, FcsBack. -/
import Derived.Test.YtglmkjnhkjljpabHit
import Derived.Lib.SlBytesConst
namespace Go.Proofs.Ytglmkjnhkjljpab
open Go.RowKit Go.Joins

theorem sum_nines : Crc.sum [49, 50, 51, 52, 53, 54, 55, 56, 57] = 3421780262 := by decide +kernel
theorem head_arg (w : World) : BArg (w.alloc (.cells #[.int .u8 49, .int .u8 50, .int .u8 51, .int .u8 52, .int .u8 53, .int .u8 54, .int .u8 55, .int .u8 56, .int .u8 57] 5 (9, 10))) (.slice (some ⟨w.heap.size, 0, none⟩) 9 9) [49, 50, 51, 52, 53, 54, 55, 56, 57] := by
  refine ⟨fun x hx => ?_, .inr ⟨by simp, w.heap.size, 0, 9, rfl, by simp, fun _ => ⟨by simp, fun k hk => ?_⟩⟩⟩
  · simp at hx; omega
  · have hk' : k < 9 := by simpa using hk
    rw [Nat.zero_add, World.cell?_alloc_mark]
    have : k = 0 ∨ k = 1 ∨ k = 2 ∨ k = 3 ∨ k = 4 ∨ k = 5 ∨ k = 6 ∨ k = 7 ∨ k = 8 := by omega
    rcases this with rfl | rfl | rfl | rfl | rfl | rfl | rfl | rfl | rfl <;> rfl
theorem head_sum (w : World) : Calls Try.prog 11 #[.slice (some ⟨w.heap.size, 0, none⟩) 9 9] (w.alloc (.cells #[.int .u8 49, .int .u8 50, .int .u8 51, .int .u8 52, .int .u8 53, .int .u8 54, .int .u8 55, .int .u8 56, .int .u8 57] 5 (9, 10)))
    fun e w' => e = .returned (.int .u32 3421780262) ∧ Below w.heap.size w w' := by
  refine (sum_any (head_arg w) (by simp)).mono fun e w' h => ?_
  obtain ⟨h1, h2⟩ := h
  rw [sum_nines] at h1
  exact ⟨h1, bTr (bAl (bRef w) _) h2⟩
theorem head_ret : Ret 9 #[] (.bool true) := fun w => by
  have kc := fun (w : World) (C : Array Value) (n c : Nat) => Lib.run_convert_bytes_const (P := Try.prog) w 22 5 C n c Try.underlying22 Try.underlying5
  have HS := Lib.hid (head_sum w)
  go_enter Try.func9, Try.ntmps9
  go_wp2_with (go_at_call 11; (with_reducible refine HS.out.mono ?_); rintro e w1 ⟨rfl, hb⟩)
  go_ret
  exact ⟨rfl, hb⟩

theorem sums_long (p : Option Addr) (n c : Nat) (hn : 3000 < n) (w : World) :
    Calls Try.prog 3 #[.slice p n c] w fun e w' => e = .returned (.bool true) ∧ Below w.heap.size w w' := by
  have HH := head_ret
  go_enter Try.func3, Try.ntmps3
  go_wp2_with (go_at_call 9; (with_reducible refine (HH.go _).mono ?_); rintro e w1 ⟨rfl, hb⟩)
  go_ret
  exact ⟨rfl, hb⟩

set_option maxHeartbeats 2000000 in
theorem sums_walk (v : Value) (xs : List Nat) (w : World) (h : BArg w v xs) :
    Calls Try.prog 3 #[v] w fun e w' => e = .returned (.bool true) ∧ Below w.heap.size w w' := by
  rcases Nat.lt_or_ge 3000 xs.length with hn | hn
  · obtain ⟨p, c, rfl⟩ := h.slice
    exact sums_long p _ c hn w
  have H := Lib.hid h
  have L1 := Lib.hid (show xs.length ≤ 140737488355000 by omega)
  have L2 := Lib.hid (show xs.length ≤ 140737488355328 by omega)
  have HH := head_ret
  obtain ⟨p, c, rfl⟩ := h.slice
  obtain ⟨n, hne⟩ : ∃ n, n = xs.length := ⟨_, rfl⟩
  rw [← hne] at H hn ⊢
  clear h hne
  go_enter Try.func3, Try.ntmps3
  go_wp2_with (first
    | (go_at_call 9; (with_reducible refine (HH.go _).mono ?_); rintro e w1 ⟨rfl, hb⟩; have HB := Lib.hid hb; have HA := Lib.hid (H.out.below hb); clear hb)
    | (go_at_call 10; (with_reducible refine (copy_any HA.out L2.out).mono ?_); rintro e w2 ⟨v2, rfl, hown⟩; have HO := Lib.hid hown.arg; replace HA := Lib.hid (HA.out.below hown.bel); replace HB := Lib.hid (bTr HB.out hown.bel); clear hown)
    | (go_at_call 11; (with_reducible refine (sum_any HO.out L2.out).mono ?_); rintro e w3 ⟨rfl, hb⟩; replace HO := Lib.hid (HO.out.below hb); replace HA := Lib.hid (HA.out.below hb); replace HB := Lib.hid (bTr HB.out hb); clear hb)
    | (go_at_call 12; (with_reducible refine (rsum_any HA.out L2.out).mono ?_); rintro e w4 ⟨rfl, hb⟩; replace HO := Lib.hid (HO.out.below hb); replace HA := Lib.hid (HA.out.below hb); replace HB := Lib.hid (bTr HB.out hb); clear hb)
    | (go_at_call 14; (with_reducible refine (close_any HO.out L1.out).mono ?_); rintro e w5 ⟨v5, rfl, hown⟩; have HC := Lib.hid hown.arg; replace HO := Lib.hid (HO.out.below hown.bel); replace HA := Lib.hid (HA.out.below hown.bel); replace HB := Lib.hid (bTr HB.out hown.bel); clear hown)
    | (go_at_call 15; (with_reducible refine (rclose_any HA.out L1.out).mono ?_); rintro e w6 ⟨v6, rfl, hown⟩; have HD := Lib.hid hown.arg; replace HC := Lib.hid (HC.out.below hown.bel); replace HO := Lib.hid (HO.out.below hown.bel); replace HA := Lib.hid (HA.out.below hown.bel); replace HB := Lib.hid (bTr HB.out hown.bel); clear hown)
    | (go_at_call 13; (with_reducible refine (same_any HC.out HD.out true (decide_eq_true rfl)).mono ?_); rintro e w7 ⟨rfl, rfl⟩)
    | (go_at_call 13; (with_reducible refine (same_any HO.out HA.out true (decide_eq_true rfl)).mono ?_); rintro e w7 ⟨rfl, rfl⟩))
  go_ret
  exact ⟨rfl, HB.out⟩

end Go.Proofs.Ytglmkjnhkjljpab
