/- StampNear, StampBack. -/
import Derived.Test.YtglmkjnhkjljpaaLaws1
import Derived.Test.YtglmkjnhkjljpaaLow
namespace Go.Proofs.Ytglmkjnhkjljpaa
open Go.RowKit

theorem near_over (s n m : Int) (hm : bits BinOp.and IntKind.i64 n 1048575 = m) (h0 : 0 ≤ m) (h1 : m < 1048576) (hs : s < 0)
    (HA : Ret 17 #[.int .i64 s, .int .i64 (1 + m)] (.tuple #[.int .i64 0, .int .i64 10])) (w : World) :
    Calls Try.prog 7 #[.int .i64 s, .int .i64 n] w fun e w' => e = .returned (.bool true) ∧ Below w.heap.size w w' := by
  have HH := head_ret
  have HW := bRef w
  go_enter Try.func7, Try.ntmps7
  go_wp2_with (first
    | (go_at_call 10; (with_reducible refine (HH.go _).mono ?_); rintro e wx ⟨rfl, hb⟩; replace HW := bTr' HW hb; clear hb)
    | (go_at_call 17; (with_reducible refine (HA.go _).mono ?_); rintro e wx ⟨rfl, hb⟩; replace HW := bTr' HW hb; clear hb))
  go_ret
  exact ⟨by simp, HW⟩
theorem near_ok (s n m y d : Int) (hm : bits BinOp.and IntKind.i64 n 1048575 = m) (h0 : 0 ≤ m) (h1 : m < 1048576) (hd0 : 0 ≤ d) (hd1 : d < (1 + m) * 65536) (hy : y.tmod 65536 = 0)
    (HA : Ret 17 #[.int .i64 s, .int .i64 (1 + m)] (.tuple #[.int .i64 y, .int .i64 0]))
    (HB : Ret 17 #[.int .i64 y, .int .i64 (1 + m)] (.tuple #[.int .i64 y, .int .i64 0]))
    (HC : Ret 15 #[.int .i64 s, .int .i64 y] (.tuple #[.int .i64 d, .int .i64 0])) (w : World) :
    Calls Try.prog 7 #[.int .i64 s, .int .i64 n] w fun e w' => e = .returned (.bool true) ∧ Below w.heap.size w w' := by
  have HH := head_ret
  have HW := bRef w
  go_enter Try.func7, Try.ntmps7
  go_wp2_with (first
    | (go_at_call 10; (with_reducible refine (HH.go _).mono ?_); rintro e wx ⟨rfl, hb⟩; replace HW := bTr' HW hb; clear hb)
    | (go_at_call 17; (with_reducible refine (HA.go _).mono ?_); rintro e wx ⟨rfl, hb⟩; replace HW := bTr' HW hb; clear hb)
    | (go_at_call 17; (with_reducible refine (HB.go _).mono ?_); rintro e wx ⟨rfl, hb⟩; replace HW := bTr' HW hb; clear hb)
    | (go_at_call 15; (with_reducible refine (HC.go _).mono ?_); rintro e wx ⟨rfl, hb⟩; replace HW := bTr' HW hb; clear hb))
  go_ret
  exact ⟨by simp, HW⟩
theorem near_walk (a b : Int) (ha1 : -9223372036854775808 ≤ a) (ha2 : a < 9223372036854775808) (_ : -9223372036854775808 ≤ b) (_ : b < 9223372036854775808) (w : World) :
    Calls Try.prog 7 #[.int .i64 a, .int .i64 b] w fun e w' => e = .returned (.bool true) ∧ Below w.heap.size w w' := by
  have hm := and_low b 20 (by omega)
  change bits .and .i64 b 1048575 = b % 1048576 at hm
  obtain ⟨m, hme⟩ : ∃ m, m = b % 1048576 := ⟨_, rfl⟩
  have h0 : 0 ≤ m := by omega
  have h1 : m < 1048576 := by omega
  rw [← hme] at hm
  have HA := grain_ret (s := a) (g := 1 + m) ⟨ha1, ha2⟩ (by omega) (by omega)
  obtain ⟨G, hG⟩ : ∃ G, (1 + m) * 65536 = G := ⟨_, rfl⟩
  have hG0 : 0 < G := by omega
  have e1 := Int.emod_nonneg a (show G ≠ 0 by omega)
  have e2 := Int.emod_lt_of_pos a hG0
  rw [hG] at HA
  cases hi : InB (a - a % G)
  · have hf := inB_false hi
    have e : Fit (a - a % G) = .tuple #[.int .i64 0, .int .i64 10] := by unfold Fit fitV fitE; rw [hi]; rfl
    rw [e] at HA
    exact near_over a b m hm h0 h1 (by omega) HA w
  · have ht := inB_true hi
    have e : Fit (a - a % G) = .tuple #[.int .i64 (a - a % G), .int .i64 0] := by unfold Fit; rw [fitV_in ht, fitE_in ht]
    rw [e] at HA
    have hmod : (a - a % G) % G = 0 := by
      have := Int.emod_add_mul_ediv a G
      rw [show a - a % G = G * (a / G) by omega, Int.mul_emod_right]
    have HB := grain_ret (s := a - a % G) (g := 1 + m) ht (by omega) (by omega)
    rw [hG, hmod, Int.sub_zero, e] at HB
    have HC := sSub_ret (a := a) (b := a - a % G) ⟨ha1, ha2⟩ ht
    have hin : In64 (a - (a - a % G)) := ⟨by omega, by omega⟩
    have e' : Fit (a - (a - a % G)) = .tuple #[.int .i64 (a % G), .int .i64 0] := by unfold Fit; rw [fitV_in hin, fitE_in hin, show a - (a - a % G) = a % G by omega]
    rw [e'] at HC
    have hdvd : (65536 : Int) ∣ (a - a % G) := by
      have := Int.emod_add_mul_ediv a G
      rw [show a - a % G = G * (a / G) by omega, ← hG]
      exact Int.dvd_trans (Int.dvd_mul_left _ _) (Int.dvd_mul_right _ _)
    exact near_ok a b m _ _ hm h0 h1 e1 (by rw [hG]; exact e2) (Int.tmod_eq_zero_of_dvd hdvd) HA HB HC w

theorem back_go (a b c s x n : Int) (hx : (x == 0) = true ∧ (x != 0) = false ∨ (x == 0) = false ∧ (x == 10) = true ∧ (x != 10) = false) (hc : bits BinOp.and IntKind.i64 a 1099511627775 = c)
    (HA : Ret 13 #[.int .i64 a, .int .i64 b] (.tuple #[.int .i64 s, .int .i64 x]))
    (HB : (x == 0) = true → Ret 15 #[.int .i64 s, .int .i64 b] (.tuple #[.int .i64 a, .int .i64 0]))
    (HN : Ret 11 #[.int .i64 c] (.tuple #[.int .i64 n, .int .i64 0]))
    (HF : RetQ 19 #[.int .i64 n] (.int .i64 c)) (w : World) :
    Calls Try.prog 8 #[.int .i64 a, .int .i64 b] w fun e w' => e = .returned (.bool true) ∧ Below w.heap.size w w' := by
  have HH := head_ret
  have HW := bRef w
  rcases hx with ⟨h1, h2⟩ | ⟨h1, h2, h3⟩
  · have HB' := HB h1
    clear HB
    go_enter Try.func8, Try.ntmps8
    go_wp2_with (first
      | (go_at_call 10; (with_reducible refine (HH.go _).mono ?_); rintro e wx ⟨rfl, hb⟩; replace HW := bTr' HW hb; clear hb)
      | (go_at_call 13; (with_reducible refine (HA.go _).mono ?_); rintro e wx ⟨rfl, hb⟩; replace HW := bTr' HW hb; clear hb)
      | (go_at_call 15; (with_reducible refine (HB'.go _).mono ?_); rintro e wx ⟨rfl, hb⟩; replace HW := bTr' HW hb; clear hb)
      | (go_at_call 11; (with_reducible refine (HN.go _).mono ?_); rintro e wx ⟨rfl, hb⟩; replace HW := bTr' HW hb; clear hb)
      | (go_at_call 19; (with_reducible refine (HF.go _).mono ?_); rintro e wx ⟨rfl, rfl⟩))
    go_ret
    exact ⟨rfl, HW⟩
  · clear HB
    go_enter Try.func8, Try.ntmps8
    go_wp2_with (first
      | (go_at_call 10; (with_reducible refine (HH.go _).mono ?_); rintro e wx ⟨rfl, hb⟩; replace HW := bTr' HW hb; clear hb)
      | (go_at_call 13; (with_reducible refine (HA.go _).mono ?_); rintro e wx ⟨rfl, hb⟩; replace HW := bTr' HW hb; clear hb)
      | (go_at_call 11; (with_reducible refine (HN.go _).mono ?_); rintro e wx ⟨rfl, hb⟩; replace HW := bTr' HW hb; clear hb)
      | (go_at_call 19; (with_reducible refine (HF.go _).mono ?_); rintro e wx ⟨rfl, rfl⟩))
    go_ret
    exact ⟨rfl, HW⟩
theorem back_walk (a b : Int) (ha1 : -9223372036854775808 ≤ a) (ha2 : a < 9223372036854775808) (hb1 : -9223372036854775808 ≤ b) (hb2 : b < 9223372036854775808) (w : World) :
    Calls Try.prog 8 #[.int .i64 a, .int .i64 b] w fun e w' => e = .returned (.bool true) ∧ Below w.heap.size w w' := by
  have hm := and_low a 40 (by omega)
  change bits .and .i64 a 1099511627775 = a % 1099511627776 at hm
  obtain ⟨c, hce⟩ : ∃ c, c = a % 1099511627776 := ⟨_, rfl⟩
  rw [← hce] at hm
  have hin : In64 (c * 65536) := ⟨by omega, by omega⟩
  have HN := ns_ret (n := c) ⟨by omega, by omega⟩
  have e : Fit (c * 65536) = .tuple #[.int .i64 (c * 65536), .int .i64 0] := by unfold Fit; rw [fitV_in hin, fitE_in hin]
  rw [e] at HN
  have HF := floor_ret (c * 65536)
  rw [show c * 65536 / 65536 = c by omega] at HF
  have HA := sAdd_ret (a := a) (b := b) ⟨ha1, ha2⟩ ⟨hb1, hb2⟩
  unfold Fit at HA
  refine back_go a b c _ _ _ ?_ hm HA ?_ HN HF w
  · unfold fitE
    cases InB (a + b)
    · right; decide
    · left; decide
  · intro hz
    have ht : In64 (a + b) := by
      cases h : InB (a + b)
      · unfold fitE at hz; rw [h] at hz; simp at hz
      · exact inB_true h
    rw [fitV_in ht]
    have HB := sSub_ret (a := a + b) (b := b) ht ⟨hb1, hb2⟩
    have hin2 : In64 (a + b - b) := ⟨by omega, by omega⟩
    have e2 : Fit (a + b - b) = .tuple #[.int .i64 a, .int .i64 0] := by unfold Fit; rw [fitV_in hin2, fitE_in hin2, show a + b - b = a by omega]
    rw [e2] at HB
    exact HB

end Go.Proofs.Ytglmkjnhkjljpaa
