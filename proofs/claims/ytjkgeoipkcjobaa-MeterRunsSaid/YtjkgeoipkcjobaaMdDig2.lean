/- The reference's sums, differences, comparisons, and numbers out of two words. -/
import Derived.Test.YtjkgeoipkcjobaaMdDig
namespace Go.Proofs.Ytjkgeoipkcjobaa.Dgs
open Go.RowKit

theorem rd_cell {w : World} {b o : Nat} {ds : List Nat} (h : Rd w b o ds) (j : Nat) (u : Value) (hu : (dv ds)[j]? = some u) : w.cell? ((⟨b, o, none⟩ : Addr).add j) = some u := by
  have hj : j < ds.length := by
    rcases Nat.lt_or_ge j ds.length with h | h
    · exact h
    · rw [List.getElem?_eq_none (by simp [dv]; exact h)] at hu; cases hu
  obtain ⟨_, hc⟩ := h (by omega)
  have e := hc j hj
  have eu : u = .int .i64 ((ds.getD j 0 : Nat) : Int) := by
    simp [dv, List.getElem?_eq_getElem hj] at hu
    rw [← hu, List.getD_eq_getElem?_getD, List.getElem?_eq_getElem hj]; rfl
  rw [eu, ← e]
  unfold Addr.add
  split
  · rename_i h0; subst h0; rfl
  · rfl
theorem dv_one (ds : List Nat) : ∀ u ∈ dv ds, u.oneCell' = true := by
  intro u hu
  simp [dv] at hu
  obtain ⟨d, _, rfl⟩ := hu
  rfl

/-- In a round: w0 is the call's world at its start. -/
theorem Rd.of_below {w0 w : World} {b o : Nat} {ds : List Nat} (h : Rd w0 b o ds) (hb : Below w0.heap.size w0 w) {k : Nat} (hk : k < ds.length) : w.cell? ⟨b, o + k, none⟩ = some (.int .i64 ((ds.getD k 0 : Nat) : Int)) :=
  (h.below hb (by omega)).2 k hk

end Go.Proofs.Ytjkgeoipkcjobaa.Dgs
