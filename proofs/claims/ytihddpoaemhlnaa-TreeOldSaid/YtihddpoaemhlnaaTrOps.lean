/- Package tree: hasPort, holds, Best, Root. -/
import Derived.Test.YtihddpoaemhlnaaTrMem
import Derived.Test.YtihddpoaemhlnaaBtHand
namespace Go.Proofs.Ytihddpoaemhlnaa
open Go.RowKit Go.Joins Go.Deep

def Ts.has (t : Ts) (at_ : Int) : Bool := decide (0 ≤ at_) && decide (at_ < (t.n : Int))
theorem has_any {w : World} {b g : Nat} {t : Ts} (h : Tr w b g t) (at_ : Int) : Calls Try.prog 36 #[.pointer (some ⟨b, 0, none⟩), .int .i64 at_] w fun e w' => e = .returned (.bool (t.has at_)) ∧ w = w' := by
  obtain ⟨us, h⟩ := h
  have c6 := h.c6
  unfold Ts.has
  clear h
  generalize t.n = n at *
  by_cases h0 : 0 ≤ at_
  · have d0 : decide (0 ≤ at_) = true := decide_eq_true h0
    rw [d0, Bool.true_and]
    go_enter Try.func36, Try.ntmps36
    go_wp2_with fail
    go_ret
    exact ⟨rfl, rfl⟩
  · have d0 : decide (0 ≤ at_) = false := decide_eq_false h0
    rw [d0, Bool.false_and]
    go_enter Try.func36, Try.ntmps36
    go_wp2_with fail
    go_ret
    exact ⟨rfl, rfl⟩
theorem has_nil (at_ : Int) (w : World) : Calls Try.prog 36 #[.pointer none, .int .i64 at_] w fun e w' => e = .returned (.bool false) ∧ w = w' := by
  go_enter Try.func36, Try.ntmps36
  go_wp2_with fail
  go_ret
  exact ⟨rfl, rfl⟩
/-- Something was heard, not too long ago. -/
def Kp.holds (k : Kp) (now most : Int) : Bool := k.heard && (decide (k.when_ ≤ now) && decide (now - k.when_ ≤ most))
theorem u64sub (a b : Int) (ha : In64 a) (hb : In64 b) (h : b ≤ a) : IntKind.u64.wrap (IntKind.u64.wrap a - IntKind.u64.wrap b) = a - b := by
  unfold In64 at ha hb
  simp only [IntKind.wrap_u64]
  omega
theorem u64id (a : Int) (h0 : 0 ≤ a) (h1 : a < 18446744073709551616) : IntKind.u64.wrap a = a := by simp only [IntKind.wrap_u64]; omega
theorem holds_any (k : Kp) (p : Option Addr) (l c : Nat) (now most : Int) (w : World) (hw : In64 k.when_) (hn : In64 now) (h0 : 0 ≤ most) (h1 : most ≤ 1099511627776) :
    Calls Try.prog 35 #[.agg (KC k (.slice p l c)), .int .i64 now, .int .i64 most] w fun e w' => e = .returned (.bool (k.holds now most)) ∧ Below w.heap.size w w' := by
  obtain ⟨up, heard, when_, vec, path⟩ := k
  unfold Kp.holds KC
  dsimp only at hw ⊢
  cases heard with
  | false =>
    clear hw hn h0 h1
    go_enter Try.func35, Try.ntmps35
    go_wp2_with fail
    go_ret
    exact ⟨rfl, bAl (bRef w) _⟩
  | true =>
    by_cases hl : when_ ≤ now
    · have e1 := u64sub now when_ hn hw hl
      have e2 := u64id most h0 (by omega)
      have d1 : decide (when_ ≤ now) = true := decide_eq_true hl
      rw [d1]
      have H1 := Lib.hid e1
      clear hw hn h0 h1 hl
      go_enter Try.func35, Try.ntmps35
      go_wp2_with fail
      go_ret
      exact ⟨rfl, bAl (bRef w) _⟩
    · have d1 : decide (when_ ≤ now) = false := decide_eq_false hl
      rw [d1]
      clear hw hn h0 h1 hl
      go_enter Try.func35, Try.ntmps35
      go_wp2_with fail
      go_ret
      exact ⟨rfl, bAl (bRef w) _⟩

end Go.Proofs.Ytihddpoaemhlnaa
