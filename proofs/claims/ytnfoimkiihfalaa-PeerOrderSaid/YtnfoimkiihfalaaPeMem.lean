/- A peer in memory. -/
import Derived.Test.YtnfoimkiihfalaaPeStamp
import Derived.Lib.Hide
import Derived.Lib.SmallJoins
import Derived.OrdersHeld
import Derived.Deep.RegionHeld
import Derived.Deep.RegionHeld3
import Derived.Laws.AppendOwnNone
import Derived.Maps.AppendAt
namespace Go.Proofs.Ytnfoimkiihfalaa
open Go.RowKit Go.Joins

/-- All blocks but one are as they were. -/
structure ButB (b : Nat) (w w' : World) : Prop where
  os : w'.os = w.os
  tape : w'.tape = w.tape
  output : w'.output = w.output
  size : w.heap.size ≤ w'.heap.size
  block : ∀ k, k < w.heap.size → k ≠ b → w'.heap[k]? = w.heap[k]?
theorem ButB.refl (b : Nat) (w : World) : ButB b w w := ⟨rfl, rfl, rfl, Nat.le_refl _, fun _ _ _ => rfl⟩
theorem ButB.trans {b : Nat} {w w1 w2 : World} (h : ButB b w w1) (k : ButB b w1 w2) : ButB b w w2 :=
  ⟨k.os.trans h.os, k.tape.trans h.tape, k.output.trans h.output, Nat.le_trans h.size k.size, fun i hi hn => (k.block i (Nat.lt_of_lt_of_le hi h.size) hn).trans (h.block i hi hn)⟩
theorem ButB.of_below {b : Nat} {w w1 : World} (h : Below w.heap.size w w1) : ButB b w w1 := ⟨h.os, h.tape, h.output, h.size, fun k hk _ => h.block k hk⟩
theorem ButB.below {b B : Nat} {w w1 : World} (h : ButB b w w1) (hB : B ≤ b) (hs : B ≤ w.heap.size) : Below B w w1 :=
  ⟨h.os, h.tape, h.output, h.size, fun k hk => h.block k (by omega) (by omega)⟩
theorem ButB.into {b : Nat} {w0 w w1 : World} (h : ButB b w w1) (h0 : Below w0.heap.size w0 w) (hB : w0.heap.size ≤ b) : Below w0.heap.size w0 w1 := h0.trans (h.below hB h0.size)
theorem ButB.drew {b : Nat} {w w1 : World} (h : ButB b w w1) : ButB b w w1.drew := ⟨h.os, h.tape, h.output, h.size, h.block⟩
theorem set_but {w w' : World} {b : Nat} (h : ButB b w w') (i : Nat) (v : Value) : ButB b w (w'.setCell ⟨b, i, none⟩ v) :=
  h.trans ⟨rfl, rfl, rfl, by simp, fun k _ hn => heap_setCell_other w' ⟨b, i, none⟩ k v hn⟩

/-- A peer in plain numbers. -/
structure PS where
  id : Int
  port : Int
  most : Int
  slack : Int
  win : Int
  lost : Int
  seq : Int
  stage : Int
  t1 : Int
  t2 : Int
  t4 : Int
  ms : List (Int × Int)
  rate : Int
  delay : Int
  failed : Int
def prow (s : PS) (v : Value) : Array Value := #[.int .i64 s.id, .int .i64 s.port, .int .i64 s.most, .int .i64 s.slack, .int .i64 s.win, .int .i64 s.lost, .int .i64 s.seq, .int .i64 s.stage, .int .i64 s.t1, .int .i64 s.t2, .int .i64 s.t4, v, .int .i64 s.rate, .int .i64 s.delay, .int .i64 s.failed]
def two2 (x : Int × Int) : List Value := [.int .i64 x.1, .int .i64 x.2]
def mv2 (L : List (Int × Int)) : List Value := L.flatMap two2
theorem mv2_app (L M : List (Int × Int)) : mv2 (L ++ M) = mv2 L ++ mv2 M := by unfold mv2; rw [List.flatMap_append]
theorem mv2_cons (x : Int × Int) (L : List (Int × Int)) : mv2 (x :: L) = two2 x ++ mv2 L := rfl
theorem mv2_len (L : List (Int × Int)) : (mv2 L).length = L.length * 2 := by
  induction L with
  | nil => rfl
  | cons x L ih => rw [mv2_cons, List.length_append, ih]; simp [two2]; omega
theorem mv2_at : ∀ (L : List (Int × Int)) (k : Nat) (x : Int × Int), L[k]? = some x → (mv2 L)[k * 2]? = some (.int .i64 x.1) ∧ (mv2 L)[k * 2 + 1]? = some (.int .i64 x.2)
  | [], k, x, h => by simp at h
  | y :: L, 0, x, h => by
    simp at h
    subst h
    exact ⟨rfl, rfl⟩
  | y :: L, k + 1, x, h => by
    have := mv2_at L k x (by simpa using h)
    rw [show (k + 1) * 2 = k * 2 + 1 + 1 by omega, show k * 2 + 1 + 1 + 1 = (k * 2 + 1) + 2 by omega]
    exact this
/-- A row of marks, that is read. -/
def Mks (w : World) (v : Value) (L : List (Int × Int)) : Prop :=
  (v = .slice none 0 0 ∧ L = []) ∨ ∃ g o c cs fr, v = .slice (some ⟨g, o, none⟩) L.length c ∧ 0 < L.length ∧ w.heap[g]? = some (.cells cs 87 fr) ∧ L.length ≤ c ∧ ∀ j u, (mv2 L)[j]? = some u → cs[o + j]? = some u
section
variable {w w' : World} {v : Value} {L : List (Int × Int)}
theorem Mks.keep (h : Mks w v L) (hk : ∀ (k : Nat) cs fr, w.heap[k]? = some (.cells cs 87 fr) → w'.heap[k]? = w.heap[k]?) : Mks w' v L := by
  rcases h with h | ⟨g, o, c, cs, fr, h1, h2, h3, h4⟩
  · exact .inl h
  · exact .inr ⟨g, o, c, cs, fr, h1, h2, (hk g cs fr h3).trans h3, h4⟩
theorem Mks.below (h : Mks w v L) (hb : Below w.heap.size w w') : Mks w' v L := h.keep fun k _ _ hk => hb.block k (lt_of_heap hk)
theorem Mks.form (h : Mks w v L) : ∃ p c, v = .slice p L.length c := by
  rcases h with ⟨rfl, rfl⟩ | ⟨g, o, c, cs, fr, rfl, _⟩
  · exact ⟨none, 0, rfl⟩
  · exact ⟨_, c, rfl⟩
/-- The k-th one's cells. -/
theorem Mks.at {p : Option Addr} {n c : Nat} (h : Mks w (.slice p n c) L) {k : Nat} {x : Int × Int} (hk : L[k]? = some x) : ∃ g o, p = some ⟨g, o, none⟩ ∧ w.cell? ⟨g, o + k * 2, none⟩ = some (.int .i64 x.1) ∧ w.cell? ⟨g, o + k * 2 + 1, none⟩ = some (.int .i64 x.2) := by
  rcases h with ⟨_, rfl⟩ | ⟨g, o, c', cs, fr, e, h2, h3, h4, h5⟩
  · simp at hk
  · injection e with e1 e2 e3
    obtain ⟨a, b⟩ := mv2_at L k x hk
    exact ⟨g, o, e1, (cell_of_row _ _ _ _ _ _ h3).trans (h5 _ _ a), (cell_of_row _ _ _ _ _ _ h3).trans (h5 _ _ b)⟩
/-- Without the first one. -/
theorem Mks.drop1 {x : Int × Int} (h : Mks w v (x :: L)) (hL : 0 < L.length) : ∃ g o c, v = .slice (some ⟨g, o, none⟩) (L.length + 1) c ∧ L.length + 1 ≤ c ∧ Mks w (.slice (some ⟨g, o + 2, none⟩) L.length (c - 1)) L := by
  rcases h with ⟨_, h⟩ | ⟨g, o, c, cs, fr, h1, h2, h3, h4, h5⟩
  · cases h
  · simp only [List.length_cons] at h1 h4
    refine ⟨g, o, c, h1, h4, .inr ⟨g, o + 2, c - 1, cs, fr, rfl, hL, h3, by omega, fun j u hu => ?_⟩⟩
    have := h5 (2 + j) u (by rw [mv2_cons, List.getElem?_append_right (by simp [two2])]; simpa [two2] using hu)
    rwa [← Nat.add_assoc] at this
end
/-- A peer, and its row of marks. -/
structure PrI (w : World) (b : Nat) (s : PS) (v : Value) : Prop where
  box : w.heap[b]? = some (.cells (prow s v) 74 (0, 0))
  mks : Mks w v s.ms
def Pr (w : World) (b : Nat) (s : PS) : Prop := ∃ v, PrI w b s v
section
variable {w w' : World} {b : Nat} {s : PS} {v : Value}
theorem PrI.lt (h : PrI w b s v) : b < w.heap.size := lt_of_heap h.box
theorem Pr.lt (h : Pr w b s) : b < w.heap.size := by obtain ⟨_, h⟩ := h; exact h.lt
theorem PrI.below (h : PrI w b s v) (hb : Below w.heap.size w w') : PrI w' b s v := ⟨(hb.block b h.lt).trans h.box, h.mks.below hb⟩
theorem Pr.below (h : Pr w b s) (hb : Below w.heap.size w w') : Pr w' b s := by obtain ⟨v, h⟩ := h; exact ⟨v, h.below hb⟩
theorem Pr.alloc (h : Pr w b s) (o : Obj) : Pr (w.alloc o) b s := h.below (bAl (bRef w) o)
theorem PrI.fz (h : PrI w b s v) (i : Nat) : w.frozen? ⟨b, i, none⟩ = false := frozen_of_row _ _ _ _ _ h.box
theorem PrI.c0 (h : PrI w b s v) : w.cell? ⟨b, 0, none⟩ = some (.int .i64 s.id) := cell_of_row w b 0 _ _ _ h.box
theorem PrI.c1 (h : PrI w b s v) : w.cell? ⟨b, 1, none⟩ = some (.int .i64 s.port) := cell_of_row w b 1 _ _ _ h.box
theorem PrI.c2 (h : PrI w b s v) : w.cell? ⟨b, 2, none⟩ = some (.int .i64 s.most) := cell_of_row w b 2 _ _ _ h.box
theorem PrI.c3 (h : PrI w b s v) : w.cell? ⟨b, 3, none⟩ = some (.int .i64 s.slack) := cell_of_row w b 3 _ _ _ h.box
theorem PrI.c4 (h : PrI w b s v) : w.cell? ⟨b, 4, none⟩ = some (.int .i64 s.win) := cell_of_row w b 4 _ _ _ h.box
theorem PrI.c5 (h : PrI w b s v) : w.cell? ⟨b, 5, none⟩ = some (.int .i64 s.lost) := cell_of_row w b 5 _ _ _ h.box
theorem PrI.c6 (h : PrI w b s v) : w.cell? ⟨b, 6, none⟩ = some (.int .i64 s.seq) := cell_of_row w b 6 _ _ _ h.box
theorem PrI.c7 (h : PrI w b s v) : w.cell? ⟨b, 7, none⟩ = some (.int .i64 s.stage) := cell_of_row w b 7 _ _ _ h.box
theorem PrI.c8 (h : PrI w b s v) : w.cell? ⟨b, 8, none⟩ = some (.int .i64 s.t1) := cell_of_row w b 8 _ _ _ h.box
theorem PrI.c9 (h : PrI w b s v) : w.cell? ⟨b, 9, none⟩ = some (.int .i64 s.t2) := cell_of_row w b 9 _ _ _ h.box
theorem PrI.c10 (h : PrI w b s v) : w.cell? ⟨b, 10, none⟩ = some (.int .i64 s.t4) := cell_of_row w b 10 _ _ _ h.box
theorem PrI.c11 (h : PrI w b s v) : w.cell? ⟨b, 11, none⟩ = some v := cell_of_row w b 11 _ _ _ h.box
theorem PrI.c12 (h : PrI w b s v) : w.cell? ⟨b, 12, none⟩ = some (.int .i64 s.rate) := cell_of_row w b 12 _ _ _ h.box
theorem PrI.c13 (h : PrI w b s v) : w.cell? ⟨b, 13, none⟩ = some (.int .i64 s.delay) := cell_of_row w b 13 _ _ _ h.box
theorem PrI.c14 (h : PrI w b s v) : w.cell? ⟨b, 14, none⟩ = some (.int .i64 s.failed) := cell_of_row w b 14 _ _ _ h.box
/-- One of its cells turns, another row of marks may hold. -/
theorem PrI.set (h : PrI w b s v) (i : Nat) (x : Value) {s' : PS} {v' : Value} (he : (prow s v).setIfInBounds i x = prow s' v') (hm : Mks w v' s'.ms) : PrI (w.setCell ⟨b, i, none⟩ x) b s' v' := by
  refine ⟨?_, hm.keep fun k cs fr hk => heap_setCell_other w ⟨b, i, none⟩ k x ?_⟩
  · have := heap_setCell_same w b i _ _ x h.box
    rw [he] at this
    exact this
  · intro e
    have e : k = b := e
    subst e
    rw [h.box] at hk
    injection hk with hk
    injection hk with _ hk
    exact absurd hk (by decide)
end

end Go.Proofs.Ytnfoimkiihfalaa
