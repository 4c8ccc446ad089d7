/- FdbApart in plain numbers: bits; what the table holds. -/
import Derived.Test.YtkbodcgamfkegaaFdApart
namespace Go.Proofs.Ytkbodcgamfkegaa
open Go.RowKit Go.Joins Go.Maps Go.MapKept Go.ChangeMaps Go.WideMaps

def apR (P a : Nat) : Int := bits .andNot .i64 (P : Int) ((2 ^ a : Nat) : Int)
def apT (R : Int) (P a : Nat) : Bool := decide (bits .andNot .i64 R (P : Int) = 0) && decide (bits .and .i64 (R / ((2 ^ a : Nat) : Int)) 1 = 0) && decide (0 ≤ R) && decide (R < 256)
theorem ap_bits0 : ∀ P : Nat, P < 256 → ∀ a : Nat, a < 8 → apT (apR P a) P a = true := of_decide_eq_true (by kernel_rfl)
theorem ap_bits1 : ∀ P : Nat, P < 256 → ∀ a : Nat, a < 8 → ∀ j : Nat, j < 8 → apT (bits .and .i64 (apR P a) ((2 ^ j : Nat) : Int)) P a = true := of_decide_eq_true (by kernel_rfl)
def ApE (p : Pl) (n : Nat) (E : List (Pl × (Int × Int))) : Prop := E = [] ∨ ∃ a i : Int, E = [(p, (a, i))] ∧ 0 ≤ a ∧ a < (n : Int)
section
variable {p : Pl} {n : Nat} {E E' : List (Pl × (Int × Int))}
theorem ApE.put (h : ApE p n E) {x now : Int} (h0 : 0 ≤ x) (h1 : x < (n : Int)) : ApE p n (putL E p (x, now)) := by
  refine .inr ⟨x, now, ?_, h0, h1⟩
  rcases h with rfl | ⟨a, i, rfl, _⟩
  · rfl
  · unfold putL delL
    simp
theorem ApE.len (h : ApE p n E) : E.length ≤ 1 := by
  rcases h with rfl | ⟨a, i, rfl, _⟩ <;> simp
theorem ApE.okE (h : ApE p n E) (hn : n ≤ 8) (F : Nat → Int) (V : List (Int × (Int × Int))) : OkE ⟨n, 50, F, V, [], E⟩ := by
  refine ⟨fun x hx => ?_, fun x hx => by cases hx⟩
  rcases h with rfl | ⟨a, i, rfl, h0, h1⟩
  · cases hx
  · simp at hx
    subst hx
    exact ⟨h0, by show a < 8; omega⟩
theorem ApE.where (h : ApE p n E) (hn : n ≤ 8) (F : Nat → Int) (V : List (Int × (Int × Int))) : whereV ⟨n, 50, F, V, [], E⟩ p = 0 ∨ ∃ j : Nat, j < 8 ∧ whereV ⟨n, 50, F, V, [], E⟩ p = ((2 ^ j : Nat) : Int) := by
  rcases h with rfl | ⟨a, i, rfl, h0, h1⟩
  · exact .inl rfl
  · refine .inr ⟨a.toNat, by omega, ?_⟩
    unfold whereV
    simp [lookL]
end
/-- What SetVlan leaves of no VLANs. -/
def apV (x P U : Int) : List (Int × (Int × Int)) := if P = 0 then delL [] x else putL [] x (P, U)
theorem ap_vlan {n : Nat} {F : Nat → Int} {S : List (Pl × Int)} {E : List (Pl × (Int × Int))} {x P U : Int} (hU : P = 0 → U = 0) : vlanV ⟨n, 50, F, apV x P U, S, E⟩ x = (P, U) := by
  unfold vlanV apV
  by_cases h : P = 0
  · rw [if_pos h, h, hU h]
    rfl
  · rw [if_neg h]
    show (lookL (putL [] x (P, U)) x).getD (0, 0) = _
    rw [lookL_put_same]
    rfl
theorem andNot_zero {U : Int} (h : In64 U) (h0 : bits .andNot .i64 U 0 = 0) : U = 0 := by
  have e : bits .andNot .i64 U 0 = U := by
    show IntKind.i64.wrap ((BitVec.ofInt 64 U &&& ~~~ BitVec.ofInt 64 0).toNat : Nat) = U
    rw [show (~~~ BitVec.ofInt 64 0 : BitVec 64) = BitVec.allOnes 64 by rfl, BitVec.and_allOnes, BitVec.toNat_ofInt, IntKind.wrap_i64]
    unfold In64 at h
    omega
  rw [← e, h0]
theorem ap_out {p : Pl} {n : Nat} {E : List (Pl × (Int × Int))} (h : ApE p n E) (hn : n ≤ 8) (F : Nat → Int) {P U : Int} (hP : 0 ≤ P ∧ P < 256) (hU : P = 0 → U = 0) {a : Nat} (ha : a < 8) :
    bits .andNot .i64 (outP ⟨n, 50, F, apV p.1 P U, [], E⟩ a p) P = 0 ∧ bits .and .i64 (outP ⟨n, 50, F, apV p.1 P U, [], E⟩ a p / ((2 ^ a : Nat) : Int)) 1 = 0 ∧ 0 ≤ outP ⟨n, 50, F, apV p.1 P U, [], E⟩ a p ∧ outP ⟨n, 50, F, apV p.1 P U, [], E⟩ a p < 256 := by
  obtain ⟨N, rfl⟩ : ∃ N : Nat, P = (N : Int) := ⟨P.toNat, by omega⟩
  have split : ∀ R : Int, apT R N a = true → bits .andNot .i64 R (N : Int) = 0 ∧ bits .and .i64 (R / ((2 ^ a : Nat) : Int)) 1 = 0 ∧ 0 ≤ R ∧ R < 256 := fun R hR => by
    unfold apT at hR
    simp only [Bool.and_eq_true, decide_eq_true_eq] at hR
    exact ⟨hR.1.1.1, hR.1.1.2, hR.1.2, hR.2⟩
  unfold outP
  rw [ap_vlan hU]
  rcases h.where hn F (apV p.1 (N : Int) U) with e | ⟨j, hj, e⟩
  · rw [if_pos e]
    exact split _ (ap_bits0 N (by omega) a ha)
  · have hp := Nat.two_pow_pos j
    have e2 : ¬ whereV ⟨n, 50, F, apV p.1 (N : Int) U, [], E⟩ p = 0 := by rw [e]; omega
    rw [if_neg e2, e]
    exact split _ (ap_bits1 N (by omega) a ha j hj)
theorem ap_out0 {p : Pl} {n : Nat} (F : Nat → Int) {P U : Int} (hU : P = 0 → U = 0) (a : Nat) : outP ⟨n, 50, F, apV p.1 P U, [], []⟩ a p = bits .andNot .i64 P ((2 ^ a : Nat) : Int) := by
  unfold outP
  rw [ap_vlan hU]
  exact if_pos rfl

end Go.Proofs.Ytkbodcgamfkegaa
