/- A Merge in memory. -/
import Derived.Test.YtnkblihdgfhcdaaSqEq
namespace Go.Proofs.Ytnkblihdgfhcdaa
open Go.RowKit Go.Joins

/-- A Merge in plain numbers. -/
structure MG where
  every : Int
  limit : Int
  last : Int
  short : Int
  silent : Int
  n : Nat
  ones : Nat → SQ
  all : SQ
def upd {α : Type} (f : Nat → α) (i : Nat) (x : α) : Nat → α := fun j => if j = i then x else f j
theorem upd_same {α : Type} (f : Nat → α) (i : Nat) (x : α) : upd f i x i = x := by simp [upd]
theorem upd_other {α : Type} (f : Nat → α) {i j : Nat} (x : α) (h : j ≠ i) : upd f i x j = f j := by simp [upd, h]
def mgrow (m : MG) (v : Value) (ba : Nat) : Array Value := #[.int .i64 m.every, .int .i64 m.limit, v, .pointer (some ⟨ba, 0, none⟩), .int .i64 m.last, .int .i64 m.short, .int .i64 m.silent]
structure MgI (w : World) (b lo hi : Nat) (m : MG) (g cap ba : Nat) (bs : Nat → Nat) : Prop where
  box : w.heap[b]? = some (.cells (mgrow m (.slice (some ⟨g, 0, none⟩) m.n cap) ba) 83 (0, 0))
  row : ∃ cur fr, w.heap[g]? = some (.cells cur 26 fr) ∧ ∀ i, i < m.n → cur[i]? = some (.pointer (some ⟨bs i, 0, none⟩))
  ones : ∀ i, i < m.n → Sq w (bs i) (m.ones i)
  all : Sq w ba m.all
  inj : ∀ i j, i < m.n → j < m.n → bs i = bs j → i = j
  nall : ∀ i, i < m.n → bs i ≠ ba
  lb : lo ≤ b ∧ b < hi
  lg : lo ≤ g ∧ g < hi
  la : lo ≤ ba ∧ ba < hi
  ls : ∀ i, i < m.n → lo ≤ bs i ∧ bs i < hi
  hi : hi ≤ w.heap.size
/-- A Merge whose blocks all lie between lo and hi. -/
def Mg (w : World) (b lo hi : Nat) (m : MG) : Prop := ∃ g cap ba bs, MgI w b lo hi m g cap ba bs
/-- All blocks but those from lo to hi are as they were. -/
structure ButI (lo hi : Nat) (w w' : World) : Prop where
  os : w'.os = w.os
  tape : w'.tape = w.tape
  output : w'.output = w.output
  size : w.heap.size ≤ w'.heap.size
  block : ∀ k, k < w.heap.size → (k < lo ∨ hi ≤ k) → w'.heap[k]? = w.heap[k]?
  ints : ∀ (k : Nat) (cur : Array Value) (fr : Nat × Nat), w.heap[k]? = some (.cells cur 3 fr) → w'.heap[k]? = some (.cells cur 3 fr)
section
variable {lo hi b : Nat} {w w1 w2 : World}
theorem ButI.refl (lo hi : Nat) (w : World) : ButI lo hi w w := ⟨rfl, rfl, rfl, Nat.le_refl _, fun _ _ _ => rfl, fun _ _ _ h => h⟩
theorem ButI.trans (h : ButI lo hi w w1) (k : ButI lo hi w1 w2) : ButI lo hi w w2 :=
  ⟨k.os.trans h.os, k.tape.trans h.tape, k.output.trans h.output, Nat.le_trans h.size k.size, fun i hi hn => (k.block i (Nat.lt_of_lt_of_le hi h.size) hn).trans (h.block i hi hn), fun i cur fr hi => k.ints i cur fr (h.ints i cur fr hi)⟩
theorem ButI.of_below (h : Below w.heap.size w w1) : ButI lo hi w w1 := ⟨h.os, h.tape, h.output, h.size, fun k hk _ => h.block k hk, fun k _ _ hk => (h.block k (lt_of_heap hk)).trans hk⟩
theorem ButI.of_but (h : ButB b w w1) (hl : lo ≤ b) (hh : b < hi) {cs : Array Value} {t : TypeId} {fr : Nat × Nat} (hc : w.heap[b]? = some (.cells cs t fr)) (ht : t ≠ 3) : ButI lo hi w w1 :=
  ⟨h.os, h.tape, h.output, h.size, fun k hk hn => h.block k hk (by omega), fun k cur fr' hk => (h.block k (lt_of_heap hk) (fun e => by
    rw [e, hc] at hk
    injection hk with hk
    injection hk with _ hk _
    exact ht hk)).trans hk⟩
theorem ButI.of_sq {x : SQ} (hs : Sq w b x) (h : ButB b w w1) (hl : lo ≤ b) (hh : b < hi) : ButI lo hi w w1 := ButI.of_but h hl hh hs (by decide)
theorem ButI.below {B : Nat} (h : ButI lo hi w w1) (hB : B ≤ lo) (hb : hi ≤ w.heap.size) (hlh : lo < hi) : Below B w w1 :=
  ⟨h.os, h.tape, h.output, h.size, fun k hk => h.block k (by omega) (by omega)⟩
end
section
variable {w w' : World} {b lo hi g cap ba : Nat} {m : MG} {bs : Nat → Nat}
theorem MgI.keep (h : MgI w b lo hi m g cap ba bs) (hs : w.heap.size ≤ w'.heap.size) (hk : ∀ k, lo ≤ k → k < hi → w'.heap[k]? = w.heap[k]?) : MgI w' b lo hi m g cap ba bs := by
  obtain ⟨h1, ⟨cur, fr, h2, h2'⟩, h3, h4, h5, h6, h7, h8, h9, h10, h11⟩ := h
  exact ⟨(hk _ h7.1 h7.2).trans h1, ⟨cur, fr, (hk _ h8.1 h8.2).trans h2, h2'⟩, fun i hi => (hk _ (h10 i hi).1 (h10 i hi).2).trans (h3 i hi), (hk _ h9.1 h9.2).trans h4, h5, h6, h7, h8, h9, h10, Nat.le_trans h11 hs⟩
theorem Mg.keep (h : Mg w b lo hi m) (hs : w.heap.size ≤ w'.heap.size) (hk : ∀ k, lo ≤ k → k < hi → w'.heap[k]? = w.heap[k]?) : Mg w' b lo hi m := by
  obtain ⟨g, cap, ba, bs, h⟩ := h
  exact ⟨g, cap, ba, bs, h.keep hs hk⟩
theorem Mg.top (h : Mg w b lo hi m) : hi ≤ w.heap.size ∧ lo ≤ b ∧ b < hi := by
  obtain ⟨g, cap, ba, bs, h⟩ := h
  exact ⟨h.hi, h.lb⟩
theorem Mg.below (h : Mg w b lo hi m) (hb : Below w.heap.size w w') : Mg w' b lo hi m := h.keep hb.size (fun k _ h2 => hb.block k (by have := h.top; omega))
theorem Mg.alloc (h : Mg w b lo hi m) (o : Obj) : Mg (w.alloc o) b lo hi m := h.below (bAl (bRef w) o)
theorem Mg.butI {lo' hi' : Nat} (h : Mg w b lo hi m) (hb : ButI lo' hi' w w') (hd : hi ≤ lo' ∨ hi' ≤ lo) : Mg w' b lo hi m := h.keep hb.size (fun k _ h2 => hb.block k (by have := h.top; omega) (by omega))
theorem sq_row {i : Nat} {x : SQ} {cur : Array Value} {fr : Nat × Nat} (h : Sq w i x) (h2 : w.heap[g]? = some (.cells cur 26 fr)) : g ≠ i := by
  rintro rfl
  unfold Sq at h
  rw [h2] at h
  injection h with h
  injection h with _ h _
  revert h
  decide
theorem sq_box {i : Nat} {x : SQ} {cur : Array Value} {fr : Nat × Nat} (h : Sq w i x) (h2 : w.heap[b]? = some (.cells cur 83 fr)) : b ≠ i := by
  rintro rfl
  unfold Sq at h
  rw [h2] at h
  injection h with h
  injection h with _ h _
  revert h
  decide
theorem row_box {cur cur' : Array Value} {fr fr' : Nat × Nat} (h : w.heap[g]? = some (.cells cur 26 fr)) (h2 : w.heap[b]? = some (.cells cur' 83 fr')) : g ≠ b := by
  rintro rfl
  rw [h2] at h
  injection h with h
  injection h with _ h _
  revert h
  decide
/-- One way's Seqr goes on. -/
theorem MgI.one (h : MgI w b lo hi m g cap ba bs) {i : Nat} (hi' : i < m.n) {x : SQ} (hb : ButB (bs i) w w') (hx : Sq w' (bs i) x) : MgI w' b lo hi { m with ones := upd m.ones i x } g cap ba bs := by
  obtain ⟨h1, ⟨cur, fr, h2, h2'⟩, h3, h4, h5, h6, h7, h8, h9, h10, h11⟩ := h
  refine ⟨(hb.block _ (by omega) (sq_box (h3 i hi') h1)).trans h1, ⟨cur, fr, (hb.block _ (by omega) (sq_row (h3 i hi') h2)).trans h2, h2'⟩, fun j hj => ?_, (hb.block _ (by omega) (fun e => h6 i hi' e.symm)).trans h4, h5, h6, h7, h8, h9, h10, Nat.le_trans h11 hb.size⟩
  show Sq w' (bs j) (upd m.ones i x j)
  by_cases e : j = i
  · subst e; rw [upd_same]; exact hx
  · rw [upd_other _ _ e]
    exact (hb.block _ (by have := h10 j hj; omega) (fun e2 => e (h5 j i hj hi' e2))).trans (h3 j hj)
/-- The Seqr of all goes on. -/
theorem MgI.allx (h : MgI w b lo hi m g cap ba bs) {x : SQ} (hb : ButB ba w w') (hx : Sq w' ba x) : MgI w' b lo hi { m with all := x } g cap ba bs := by
  obtain ⟨h1, ⟨cur, fr, h2, h2'⟩, h3, h4, h5, h6, h7, h8, h9, h10, h11⟩ := h
  exact ⟨(hb.block _ (by omega) (sq_box h4 h1)).trans h1, ⟨cur, fr, (hb.block _ (by omega) (sq_row h4 h2)).trans h2, h2'⟩, fun j hj => (hb.block _ (by have := h10 j hj; omega) (h6 j hj)).trans (h3 j hj), hx, h5, h6, h7, h8, h9, h10, Nat.le_trans h11 hb.size⟩
/-- The box itself is written. -/
theorem MgI.boxed {m' : MG} (h : MgI w b lo hi m g cap ba bs) (hn : m'.n = m.n) (ho : m'.ones = m.ones) (ha : m'.all = m.all) (hb : ButB b w w') (hx : w'.heap[b]? = some (.cells (mgrow m' (.slice (some ⟨g, 0, none⟩) m'.n cap) ba) 83 (0, 0))) : MgI w' b lo hi m' g cap ba bs := by
  obtain ⟨h1, ⟨cur, fr, h2, h2'⟩, h3, h4, h5, h6, h7, h8, h9, h10, h11⟩ := h
  refine ⟨hx, ⟨cur, fr, (hb.block _ (by omega) (row_box h2 h1)).trans h2, by rw [hn]; exact h2'⟩, fun j hj => ?_, ?_, by rw [hn]; exact h5, by rw [hn]; exact h6, h7, h8, h9, by rw [hn]; exact h10, Nat.le_trans h11 hb.size⟩
  · rw [hn] at hj
    rw [ho]
    exact (hb.block _ (by have := h10 j hj; omega) (fun e => sq_box (h3 j hj) h1 e.symm)).trans (h3 j hj)
  · rw [ha]
    exact (hb.block _ (by omega) (fun e => sq_box h4 h1 e.symm)).trans h4
theorem MgI.set4 (h : MgI w b lo hi m g cap ba bs) (x : Int) : MgI (w.setCell ⟨b, 4, none⟩ (.int .i64 x)) b lo hi { m with last := x } g cap ba bs := h.boxed rfl rfl rfl (set_but h.box 4 _) (heap_setCell_same w b 4 _ _ _ h.box)
theorem MgI.set5 (h : MgI w b lo hi m g cap ba bs) (x : Int) : MgI (w.setCell ⟨b, 5, none⟩ (.int .i64 x)) b lo hi { m with short := x } g cap ba bs := h.boxed rfl rfl rfl (set_but h.box 5 _) (heap_setCell_same w b 5 _ _ _ h.box)
theorem MgI.set6 (h : MgI w b lo hi m g cap ba bs) (x : Int) : MgI (w.setCell ⟨b, 6, none⟩ (.int .i64 x)) b lo hi { m with silent := x } g cap ba bs := h.boxed rfl rfl rfl (set_but h.box 6 _) (heap_setCell_same w b 6 _ _ _ h.box)
theorem MgI.setB (h : MgI w b lo hi m g cap ba bs) (i : Nat) (v : Value) : ButI lo hi w (w.setCell ⟨b, i, none⟩ v) := ButI.of_but (set_but h.box i v) h.lb.1 h.lb.2 h.box (by decide)
theorem MgI.drewN (h : MgI w b lo hi m g cap ba bs) (n : Nat) : MgI (w.drewN n) b lo hi m g cap ba bs := h.keep (Nat.le_refl _) (fun _ _ _ => rfl)
theorem MgI.drew (h : MgI w b lo hi m g cap ba bs) : MgI w.drew b lo hi m g cap ba bs := h.keep (Nat.le_refl _) (fun _ _ _ => rfl)
structure MgC (w : World) (b : Nat) (m : MG) (g cap ba : Nat) : Prop where
  k0 : w.cell? ⟨b, 0, none⟩ = some (.int .i64 m.every)
  k1 : w.cell? ⟨b, 1, none⟩ = some (.int .i64 m.limit)
  k2 : w.cell? ⟨b, 2, none⟩ = some (.slice (some ⟨g, 0, none⟩) m.n cap)
  k3 : w.cell? ⟨b, 3, none⟩ = some (.pointer (some ⟨ba, 0, none⟩))
  k4 : w.cell? ⟨b, 4, none⟩ = some (.int .i64 m.last)
  k5 : w.cell? ⟨b, 5, none⟩ = some (.int .i64 m.short)
  k6 : w.cell? ⟨b, 6, none⟩ = some (.int .i64 m.silent)
  f4 : w.frozen? ⟨b, 4, none⟩ = false
  f5 : w.frozen? ⟨b, 5, none⟩ = false
  f6 : w.frozen? ⟨b, 6, none⟩ = false
theorem MgI.c (h : MgI w b lo hi m g cap ba bs) : MgC w b m g cap ba := by
  constructor <;> first | exact cell_of_row _ _ _ _ _ _ h.box | exact frozen_of_row _ _ _ _ _ h.box
theorem MgI.at (h : MgI w b lo hi m g cap ba bs) {i : Nat} (hi' : i < m.n) : w.cell? ⟨g, i, none⟩ = some (.pointer (some ⟨bs i, 0, none⟩)) := by
  obtain ⟨cur, fr, h2, h3⟩ := h.row
  rw [cell_of_row w g i _ _ _ h2]
  exact h3 i hi'
theorem MgI.mg (h : MgI w b lo hi m g cap ba bs) : Mg w b lo hi m := ⟨g, cap, ba, bs, h⟩
end

end Go.Proofs.Ytnkblihdgfhcdaa
