/- Package agenda at int: what is to come as a bag of times, numbers and things. -/
import Derived.Test.YtnddiobjojnckaaAgApiI
namespace Go.Proofs.Ytnddiobjojnckaa
open Go.RowKit Go.Joins
namespace AgI

def key (e : Ent) : Int × Int × Int := (e.at_, e.turn, e.what)
def kLt (a b : Int × Int × Int) : Prop := a.1 < b.1 ∨ (a.1 = b.1 ∧ a.2.1 < b.2.1)
def K2 : List TypeId := [51, 49]
def St (B : Nat) (w : World) (g : Nat) (now last : Int) (S : List (Int × Int × Int)) : Prop := ∃ l, Ag B w g now last l ∧ Hp l l.length ∧ (l.map key).Perm S
theorem St.below {B : Nat} {w w' : World} {g : Nat} {now last : Int} {S : List (Int × Int × Int)} (h : St B w g now last S) (hb : Below w.heap.size w w') : St B w' g now last S := by
  obtain ⟨l, h1, h2, h3⟩ := h
  exact ⟨l, h1.below hb, h2, h3⟩
theorem St.lt {B : Nat} {w : World} {g : Nat} {now last : Int} {S : List (Int × Int × Int)} (h : St B w g now last S) : B ≤ w.heap.size := by
  obtain ⟨l, h1, _⟩ := h
  exact h1.lt
theorem St.perm {B : Nat} {w : World} {g : Nat} {now last : Int} {S T : List (Int × Int × Int)} (h : St B w g now last S) (hp : S.Perm T) : St B w g now last T := by
  obtain ⟨l, h1, h2, h3⟩ := h
  exact ⟨l, h1, h2, h3.trans hp⟩

theorem new_st (w : World) : Calls Try.prog 5 #[] w fun e w' => ∃ g, e = .returned (.pointer (some ⟨g, 0, none⟩)) ∧ St w.heap.size w' g 0 0 [] ∧ Below w.heap.size w w' :=
  (new_any w).mono fun e w' ⟨g, h1, h2, h3⟩ => ⟨g, h1, ⟨[], h2, fun k _ hk => absurd hk (Nat.not_lt_zero _), .refl _⟩, h3⟩
theorem len_st {B : Nat} {w : World} {g : Nat} {now last : Int} {S : List (Int × Int × Int)} (h : St B w g now last S) : Calls Try.prog 11 #[.pointer (some ⟨g, 0, none⟩)] w fun e w' => e = .returned (.int .i64 (S.length : Int)) ∧ Below w.heap.size w w' := by
  obtain ⟨l, h1, h2, h3⟩ := h
  have := h3.length_eq
  rw [List.length_map] at this
  rw [← this]
  exact alen_any h1
def PutSt (B : Nat) (w : World) (g : Nat) (now last : Int) (S : List (Int × Int × Int)) (x y : Int) (e : Ending) (w' : World) : Prop :=
  e = .returned (.tuple #[.int .i64 (last + 1), .int .i64 0]) ∧ St B w' g now (last + 1) (S ++ [(x, last + 1, y)]) ∧ Below B w w' ∧ KeptT K2 w w'
theorem put_st {B : Nat} {w : World} {g : Nat} {now last : Int} {S : List (Int × Int × Int)} (h : St B w g now last S) (x y : Int) (hx : x ≤ 1099511627776) (hy : now ≤ x) (hl : S.length < 8192) (h0 : 0 ≤ last) (h1 : last ≤ 1099511627776) :
    Calls Try.prog 6 #[.pointer (some ⟨g, 0, none⟩), .int .i64 x, .int .i64 y] w (PutSt B w g now last S x y) := by
  obtain ⟨l, k1, k2, k3⟩ := h
  have hln := k3.length_eq
  rw [List.length_map] at hln
  refine (put_ok k1 k2 x y hx hy (by omega) h0 h1).mono fun e w' hh => ?_
  obtain ⟨rfl, b, l', m1, m2, m3, m4, m5⟩ := hh
  refine ⟨rfl, ⟨l', m1, m2, ?_⟩, m4, m5⟩
  have := m3.map key
  rw [List.map_append] at this
  exact this.trans (k3.append_right _)
theorem putFull_st {B : Nat} {w : World} {g : Nat} {now last : Int} {S : List (Int × Int × Int)} (h : St B w g now last S) (x y : Int) (hx : x ≤ 1099511627776) (hy : now ≤ x) (hl : S.length = 8192) :
    Calls Try.prog 6 #[.pointer (some ⟨g, 0, none⟩), .int .i64 x, .int .i64 y] w fun e w' => e = .returned (.tuple #[.int .i64 0, .int .i64 30]) ∧ Below w.heap.size w w' := by
  obtain ⟨l, k1, k2, k3⟩ := h
  have hln := k3.length_eq
  rw [List.length_map] at hln
  exact put_full k1 x y hx hy (by omega)
/-- The first one: it is there, and none is ahead of it. -/
def First (S : List (Int × Int × Int)) (m : Int × Int × Int) : Prop := m ∈ S ∧ ∀ s ∈ S, ¬ kLt s m
theorem first_of {l : List Ent} {S : List (Int × Int × Int)} (hh : Hp l l.length) (hp : (l.map key).Perm S) (h0 : 0 < l.length) : First S (key (el l 0)) := by
  refine ⟨hp.mem_iff.1 (List.mem_map.2 ⟨_, el_mem h0, rfl⟩), fun s hs => ?_⟩
  obtain ⟨a, ha, rfl⟩ := List.mem_map.1 (hp.mem_iff.2 hs)
  obtain ⟨k, hk, e⟩ := List.mem_iff_getElem.1 ha
  have := hh.min k hk
  unfold el at this ⊢
  rw [List.getD_eq_getElem?_getD, List.getElem?_eq_getElem hk] at this
  rw [← e]
  exact this
def NextSt (B : Nat) (w : World) (g : Nat) (last : Int) (S : List (Int × Int × Int)) (x : Int) (e : Ending) (w' : World) : Prop :=
  ∃ m S', e = .returned (.tuple #[.int .i64 m.1, .int .i64 m.2.1, .int .i64 m.2.2, .bool true]) ∧ First S m ∧ m.1 ≤ x ∧ (m :: S').Perm S ∧ St B w' g m.1 last S' ∧ Below B w w' ∧ KeptT K2 w w'
theorem next_st {B : Nat} {w : World} {g : Nat} {now last : Int} {S : List (Int × Int × Int)} (h : St B w g now last S) (x : Int) (hl : 0 < S.length) (hl2 : S.length ≤ 100000) (hx : ∀ m, First S m → m.1 ≤ x) :
    Calls Try.prog 9 #[.pointer (some ⟨g, 0, none⟩), .int .i64 x] w (NextSt B w g last S x) := by
  obtain ⟨l, k1, k2, k3⟩ := h
  have hln := k3.length_eq
  rw [List.length_map] at hln
  have hf := first_of k2 k3 (by omega)
  refine (next_ok k1 k2 (by omega) (by omega) x (hx _ hf)).mono fun e w' hh => ?_
  obtain ⟨rfl, l', m1, m2, m3, m4, m5⟩ := hh
  refine ⟨key (el l 0), l'.map key, rfl, hf, hx _ hf, ?_, ⟨l', m1, m2, .refl _⟩, m4, m5⟩
  have := m3.map key
  rw [List.map_cons] at this
  exact this.trans k3
theorem nextNone_st {B : Nat} {w : World} {g : Nat} {now last : Int} {S : List (Int × Int × Int)} (h : St B w g now last S) (x : Int) (hx : ∀ m, First S m → x < m.1) :
    Calls Try.prog 9 #[.pointer (some ⟨g, 0, none⟩), .int .i64 x] w fun e w' => e = .returned (.tuple #[.int .i64 0, .int .i64 0, .int .i64 0, .bool false]) ∧ Below w.heap.size w w' := by
  obtain ⟨l, k1, k2, k3⟩ := h
  rcases Nat.eq_zero_or_pos l.length with h0 | h0
  · obtain rfl := List.eq_nil_of_length_eq_zero h0
    exact next_empty k1 x
  · exact next_later k1 h0 x (hx _ (first_of k2 k3 h0))

end AgI
end Go.Proofs.Ytnddiobjojnckaa
