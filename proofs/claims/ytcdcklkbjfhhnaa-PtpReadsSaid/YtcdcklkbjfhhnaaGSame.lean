/- The same bytes. -/
import Derived.Test.YtcdcklkbjfhhnaaGOwn
namespace Go.Proofs.Ytcdcklkbjfhhnaa
open Go.RowKit Go.Joins

theorem same_walk (p q : Option Addr) (n m c d : Nat) (w : World) (s t : ByteArray) (x : Bool) (hx : (s.toList == t.toList) = x) (h1 : (convert 30 9 (.slice p n c)).run Try.prog w = .ok (.string s) w) (h2 : (convert 30 9 (.slice q m d)).run Try.prog w = .ok (.string t) w) :
    Calls Try.prog 13 #[.slice p n c, .slice q m d] w fun e w' => e = .returned (.bool x) ∧ w = w' := by
  go_enter Try.func13, Try.ntmps13
  go_wp2_with fail
  go_ret
  exact ⟨rfl, rfl⟩
/-- The same bytes. -/
theorem same_any {va vb : Value} {xs ys : List Nat} {w : World} (ha : BArg w va xs) (hb : BArg w vb ys) (x : Bool) (hx : decide (xs = ys) = x) :
    Calls Try.prog 13 #[va, vb] w fun e w' => e = .returned (.bool x) ∧ w = w' := by
  obtain ⟨p, c, rfl⟩ := ha.slice
  obtain ⟨q, d, rfl⟩ := hb.slice
  refine same_walk p q _ _ c d w (txt xs) (txt ys) x ?_ ha.conv hb.conv
  rw [← hx]
  by_cases h : xs = ys
  · rw [h, decide_eq_true rfl]; simp
  · rw [decide_eq_false h, beq_eq_false_iff_ne]
    intro e
    apply h
    rw [txt_list, txt_list] at e
    have h2 := congrArg (List.map UInt8.toNat) e
    rw [List.map_map, List.map_map, bytes_back ha.1, bytes_back hb.1] at h2
    exact h2

end Go.Proofs.Ytcdcklkbjfhhnaa
