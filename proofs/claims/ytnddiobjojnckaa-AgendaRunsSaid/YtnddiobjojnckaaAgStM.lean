/- Package agenda at int: Now, Wait and Drop, of a bag of times, numbers and things. -/
import Derived.Test.YtnddiobjojnckaaAgPuts
namespace Go.Proofs.Ytnddiobjojnckaa
open Go.RowKit Go.Joins
namespace AgI

theorem now_st {B : Nat} {w : World} {g : Nat} {now last : Int} {S : List (Int × Int × Int)} (h : St B w g now last S) : Calls Try.prog 10 #[.pointer (some ⟨g, 0, none⟩)] w fun e w' => e = .returned (.int .i64 now) ∧ Below w.heap.size w w' := by
  obtain ⟨l, h1, _⟩ := h
  exact now_any h1
def WaitSt (B : Nat) (w : World) (g : Nat) (now last : Int) (S : List (Int × Int × Int)) (x : Int) (e : Ending) (w' : World) : Prop :=
  ∃ y, e = .returned (.int .i64 y) ∧ St B w' g y last S ∧ Below B w w' ∧ KeptT K2 w w' ∧ ((S = [] ∧ y = max now (min x 1099511627776)) ∨ ∃ m, First S m ∧ y = max now (min (min x 1099511627776) m.1))
theorem wait_st {B : Nat} {w : World} {g : Nat} {now last : Int} {S : List (Int × Int × Int)} (h : St B w g now last S) (x : Int) : Calls Try.prog 8 #[.pointer (some ⟨g, 0, none⟩), .int .i64 x] w (WaitSt B w g now last S x) := by
  obtain ⟨l, k1, k2, k3⟩ := h
  refine (wait_any k1 x).mono fun e w' hh => ?_
  obtain ⟨rfl, m1, m2, m3⟩ := hh
  refine ⟨_, rfl, ⟨l, m1, k2, k3⟩, m2, m3, ?_⟩
  unfold upto
  rcases Nat.eq_zero_or_pos l.length with h0 | h0
  · obtain rfl := List.eq_nil_of_length_eq_zero h0
    refine .inl ⟨?_, by rw [if_pos (show ([] : List Ent).length = 0 from rfl)]⟩
    have := k3.length_eq
    exact List.eq_nil_of_length_eq_zero this.symm
  · exact .inr ⟨_, first_of k2 k3 h0, by rw [if_neg (by omega)]; rfl⟩
def DropSt (B : Nat) (w : World) (g : Nat) (now last : Int) (S : List (Int × Int × Int)) (x : Int) (e : Ending) (w' : World) : Prop :=
  Below B w w' ∧ KeptT K2 w w' ∧
  ((e = .returned (.bool false) ∧ (∀ s ∈ S, s.2.1 ≠ x) ∧ St B w' g now last S) ∨ (e = .returned (.bool true) ∧ ∃ m S', m.2.1 = x ∧ (m :: S').Perm S ∧ St B w' g now last S'))
theorem drop_st {B : Nat} {w : World} {g : Nat} {now last : Int} {S : List (Int × Int × Int)} (h : St B w g now last S) (hl : S.length ≤ 100000) (x : Int) : Calls Try.prog 7 #[.pointer (some ⟨g, 0, none⟩), .int .i64 x] w (DropSt B w g now last S x) := by
  obtain ⟨l, k1, k2, k3⟩ := h
  have hln := k3.length_eq
  rw [List.length_map] at hln
  refine (drop_any k1 k2 (by omega) x).mono fun e w' hh => ?_
  obtain ⟨m1, m2, m3⟩ := hh
  refine ⟨m1, m2, ?_⟩
  rcases m3 with ⟨rfl, hno, hA⟩ | ⟨rfl, a, l', ha, hp, hh2, hA⟩
  · refine .inl ⟨rfl, fun s hs => ?_, ⟨l, hA, k2, k3⟩⟩
    obtain ⟨b, hb, rfl⟩ := List.mem_map.1 (k3.mem_iff.2 hs)
    exact hno b hb
  · refine .inr ⟨rfl, key a, l'.map key, ha, ?_, ⟨l', hA, hh2, .refl _⟩⟩
    have := hp.map key
    rw [List.map_cons] at this
    exact this.trans k3

end AgI
end Go.Proofs.Ytnddiobjojnckaa
