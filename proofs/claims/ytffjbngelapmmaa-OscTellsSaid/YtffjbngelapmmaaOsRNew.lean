/- The reference's clock: what is wrong with it, whatever it is. -/
import Derived.Test.YtffjbngelapmmaaOsRChk
namespace Go.Proofs.Ytffjbngelapmmaa
open Go.RowKit Go.Joins

set_option maxHeartbeats 1000000 in
theorem rchk_len {va vr : Value} {s g : Int} {n : Nat} {p : Option Addr} {c : Nat} {w : World} (hv : va = .slice p n c) (x : Int) (h : (64 < n ∧ x = 4) ∨ (n = 0 ∧ x = 1)) :
    Calls Try.prog 11 #[.agg #[.int .i64 s, .int .i64 g, va, vr]] w fun e w' => e = .returned (.int .i64 x) ∧ Below w.heap.size w w' := by
  subst hv
  have HB : Below w.heap.size w (w.alloc (.cells #[.int .i64 s, .int .i64 g, .slice p n c, vr] 34)) := bAl (bRef w) _
  obtain ⟨c0, c1, c2, c3⟩ := box4 w (.int .i64 s) (.int .i64 g) (.slice p n c) vr
  replace HB := Lib.hid HB
  rcases h with ⟨h, rfl⟩ | ⟨rfl, rfl⟩
  · have d1 : decide ((64 : Int) < (n : Int)) = true := decide_eq_true (by omega)
    have d2 : decide (64 < n) = true := decide_eq_true (by omega)
    clear h
    go_enter Try.func11, Try.ntmps11
    go_wp2_with fail
    go_ret
    exact ⟨rfl, HB.out⟩
  · go_enter Try.func11, Try.ntmps11
    go_wp2_with fail
    go_ret
    exact ⟨rfl, HB.out⟩

set_option maxHeartbeats 2000000 in
theorem rchk_head {va vr : Value} {s g : Int} {ts : List (Int × Int)} {w : World} (h : RClk w va vr ts) (hp : 0 < ts.length) (hl : ts.length ≤ 64) (hx : tA ts 0 ≠ 0 ∨ g < 1 ∨ 1000 < g ∨ s < -1152921504606846976 ∨ 1152921504606846976 < s) :
    Calls Try.prog 11 #[.agg #[.int .i64 s, .int .i64 g, va, vr]] w fun e w' => e = .returned (.int .i64 1) ∧ Below w.heap.size w w' := by
  obtain ⟨a, r, c, d, rfl, rfl, hla, hlr, hc⟩ := h.cells hp
  obtain ⟨n, hn⟩ : ∃ n, ts.length = n := ⟨_, rfl⟩
  have e0 := (hc 0 hp).1
  generalize tA ts 0 = a0 at *
  rw [hn] at hl hp ⊢
  clear h hc hn
  have HB : Below w.heap.size w (w.alloc (.cells #[.int .i64 s, .int .i64 g, .slice (some ⟨a, 0, none⟩) n c, .slice (some ⟨r, 0, none⟩) n d] 34)) := bAl (bRef w) _
  obtain ⟨c0, c1, c2, c3⟩ := box4 w (.int .i64 s) (.int .i64 g) (.slice (some ⟨a, 0, none⟩) n c) (.slice (some ⟨r, 0, none⟩) n d)
  have c4 : (w.alloc (.cells #[.int .i64 s, .int .i64 g, .slice (some ⟨a, 0, none⟩) n c, .slice (some ⟨r, 0, none⟩) n d] 34)).cell? ⟨a, 0, none⟩ = some (.int .i64 a0) := (HB.cell hla).trans e0
  replace HB := Lib.hid HB
  have d1 : decide ((64 : Int) < (n : Int)) = false := decide_eq_false (by omega)
  have d2 : ((n : Int) == 0) = false := by simp; omega
  by_cases h0 : a0 = 0
  · subst h0
    by_cases h1 : g < 1
    · have d3 : decide (g < 1) = true := decide_eq_true h1
      clear hx h1
      go_enter Try.func11, Try.ntmps11
      go_wp2_with fail
      go_ret
      exact ⟨rfl, HB.out⟩
    have d3 : decide (g < 1) = false := decide_eq_false h1
    by_cases h2 : 1000 < g
    · have d4 : decide (1000 < g) = true := decide_eq_true h2
      clear hx h1 h2
      go_enter Try.func11, Try.ntmps11
      go_wp2_with fail
      go_ret
      exact ⟨rfl, HB.out⟩
    have d4 : decide (1000 < g) = false := decide_eq_false h2
    by_cases h3 : s < -1152921504606846976
    · have d5 : decide (s < -1152921504606846976) = true := decide_eq_true h3
      clear hx h1 h2 h3
      go_enter Try.func11, Try.ntmps11
      go_wp2_with fail
      go_ret
      exact ⟨rfl, HB.out⟩
    have d5 : decide (s < -1152921504606846976) = false := decide_eq_false h3
    have d6 : decide (1152921504606846976 < s) = true := decide_eq_true (by omega)
    clear hx h1 h2 h3
    go_enter Try.func11, Try.ntmps11
    go_wp2_with fail
    go_ret
    exact ⟨rfl, HB.out⟩
  · have d3 : (a0 == 0) = false := by simpa using h0
    have d4 : (a0 != 0) = true := by simpa using h0
    clear hx h0
    go_enter Try.func11, Try.ntmps11
    go_wp2_with fail
    go_ret
    exact ⟨rfl, HB.out⟩

theorem rchk_any {va vr : Value} {s g : Int} {ts : List (Int × Int)} {w : World} (h : RClk w va vr ts) :
    Calls Try.prog 11 #[.agg #[.int .i64 s, .int .i64 g, va, vr]] w fun e w' => e = .returned (.int .i64 (newE s g ts)) ∧ Below w.heap.size w w' := by
  have la : (iA ts).length = ts.length := by simp [iA]
  obtain ⟨p, c, hv⟩ := h.1.slice
  rw [la] at hv
  unfold newE
  by_cases h1 : 64 < ts.length
  · rw [if_pos h1]; exact rchk_len hv 4 (.inl ⟨h1, rfl⟩)
  rw [if_neg h1]
  by_cases h2 : ts.length = 0
  · rw [if_pos (.inl h2)]; rw [h2] at hv; exact rchk_len hv 1 (.inr ⟨rfl, rfl⟩)
  by_cases h3 : tA ts 0 ≠ 0 ∨ g < 1 ∨ 1000 < g ∨ s < -1152921504606846976 ∨ 1152921504606846976 < s
  · rw [if_pos (.inr h3)]
    exact rchk_head h (by omega) (by omega) h3
  rw [if_neg (by omega)]
  exact rchk_ok h (by omega) (by omega) (by omega) (by omega) (by omega) ⟨by omega, by omega⟩

end Go.Proofs.Ytffjbngelapmmaa
