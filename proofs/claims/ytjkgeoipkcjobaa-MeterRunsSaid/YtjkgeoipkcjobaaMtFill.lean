/- Package meter: fill. -/
import Derived.Test.YtjkgeoipkcjobaaMtMem
namespace Go.Proofs.Ytjkgeoipkcjobaa
open Go.RowKit Go.Joins

/-- A new box. -/
structure NB (g : Nat) (w : World) : Prop where
  lt : g < w.heap.size
  x : w.cell? ⟨g, 0, none⟩ = some (.int .u64 0)
  y : w.cell? ⟨g, 1, none⟩ = some (.int .u64 0)
  fx : w.frozen? ⟨g, 0, none⟩ = false
  fy : w.frozen? ⟨g, 1, none⟩ = false
theorem NB.new (w : World) (t : TypeId) : NB w.heap.size (w.alloc (.cells #[.int .u64 0, .int .u64 0] t)) := by
  constructor <;> simp
theorem NB.drew {g : Nat} {w : World} (h : NB g w) : NB g w.drew := ⟨h.lt, h.x, h.y, h.fx, h.fy⟩
theorem NB.below {g : Nat} {w w1 : World} (h : NB g w) (hb : Below w.heap.size w w1) : NB g w1 :=
  ⟨Nat.lt_of_lt_of_le h.lt hb.size, (hb.cell h.lt).trans h.x, (hb.cell h.lt).trans h.y, (hb.frozen h.lt).trans h.fx, (hb.frozen h.lt).trans h.fy⟩
theorem block_lt_cell {w : World} {a : Addr} {v : Value} (h : w.cell? a = some v) : a.block < w.heap.size := World.block_lt_of_cell? _ _ h
/-- Two boxes of two cells, and the pail. -/
structure FB (b0 : Nat) (x y : Value) (c0 : Nat) (x' y' : Value) (b i : Nat) (p : Int) (w w' : World) : Prop where
  lt : b0 < w'.heap.size
  x : w'.cell? ⟨b0, 0, none⟩ = some x
  y : w'.cell? ⟨b0, 1, none⟩ = some y
  lt' : c0 < w'.heap.size
  x' : w'.cell? ⟨c0, 0, none⟩ = some x'
  y' : w'.cell? ⟨c0, 1, none⟩ = some y'
  lp : b < w'.heap.size
  p : w'.cell? ⟨b, i, none⟩ = some (.int .i64 p)
  b : Below w.heap.size w w'
  r : NB (w.heap.size + 1) w'
section
variable {b0 c0 b i : Nat} {x y x' y' : Value} {p : Int} {w w1 w2 : World}
theorem FB.below (h : FB b0 x y c0 x' y' b i p w w1) (hb : Below w1.heap.size w1 w2) : FB b0 x y c0 x' y' b i p w w2 :=
  ⟨Nat.lt_of_lt_of_le h.lt hb.size, (hb.cell h.lt).trans h.x, (hb.cell h.lt).trans h.y, Nat.lt_of_lt_of_le h.lt' hb.size, (hb.cell h.lt').trans h.x', (hb.cell h.lt').trans h.y', Nat.lt_of_lt_of_le h.lp hb.size, (hb.cell h.lp).trans h.p, bTr h.b hb, h.r.below hb⟩
theorem FB.alloc (h : FB b0 x y c0 x' y' b i p w w1) (o : Obj) : FB b0 x y c0 x' y' b i p w (w1.alloc o) := h.below (bAl (bRef _) o)
theorem FB.drewN (h : FB b0 x y c0 x' y' b i p w w1) (n : Nat) : FB b0 x y c0 x' y' b i p w (w1.drewN n) := h.below (bDr (bRef _) n)
theorem FB.drew (h : FB b0 x y c0 x' y' b i p w w1) : FB b0 x y c0 x' y' b i p w w1.drew := h.below (bDr (bRef _) 1)
/-- A newer second box. -/
theorem FB.new (h : FB b0 x y c0 x' y' b i p w w1) (x y : Value) (t : TypeId) : FB c0 x' y' w1.heap.size x y b i p w (w1.alloc (.cells #[x, y] t)) := by
  have k := h.alloc (.cells #[x, y] t)
  exact ⟨k.lt', k.x', k.y', by simp, by simp, by simp, k.lp, k.p, k.b, k.r⟩
theorem FB.new2 (h : FB b0 x y c0 x' y' b i p w w1) (x'' y'' : Value) (t : TypeId) : FB b0 x y w1.heap.size x'' y'' b i p w (w1.alloc (.cells #[x'', y''] t)) := by
  have k := h.alloc (.cells #[x'', y''] t)
  exact ⟨k.lt, k.x, k.y, by simp, by simp, by simp, k.lp, k.p, k.b, k.r⟩
theorem FB.start (x y : Value) (t t' : TypeId) (lp : b < w.heap.size) (hp : w.cell? ⟨b, i, none⟩ = some (.int .i64 p)) : FB w.heap.size x y w.heap.size x y b i p w ((w.alloc (.cells #[x, y] t)).alloc (.cells #[.int .u64 0, .int .u64 0] t')) := by
  have b0 : Below w.heap.size w (w.alloc (.cells #[x, y] t)) := bAl (bRef w) _
  have b1 := bAl (bRef (w.alloc (.cells #[x, y] t))) (.cells #[.int .u64 0, .int .u64 0] t')
  have n := NB.new (w.alloc (.cells #[x, y] t)) t'
  rw [show (w.alloc (.cells #[x, y] t)).heap.size = w.heap.size + 1 by simp] at n
  have c0 := (b1.cell (p := ⟨w.heap.size, 0, none⟩) (by simp)).trans (show _ = some x by simp)
  have c1 := (b1.cell (p := ⟨w.heap.size, 1, none⟩) (by simp)).trans (show _ = some y by simp)
  exact ⟨by simp; omega, c0, c1, by simp; omega, c0, c1, by simp; omega, ((bTr b0 b1).cell lp).trans hp, bTr b0 b1, n⟩
end
/-- Behind a sum or a difference: it lies in a box of its own. -/
def FillMid (c0 : Nat) (x' y' : Value) (xs ys : Value) (b i : Nat) (p : Int) (w : World) (s8 : Value) (wx : World) : Prop :=
  ∃ g, s8 = .pointer (some ⟨g, 0, none⟩) ∧ FB c0 x' y' g xs ys b i p w wx
section
variable {b0 c0 b i g : Nat} {x y x' y' xs ys : Value} {p : Int} {w w1 : World}
theorem mid_new (h : FB b0 x y c0 x' y' b i p w w1) (t : TypeId) : FillMid c0 x' y' xs ys b i p w (.pointer (some ⟨w1.heap.size, 0, none⟩)) (w1.alloc (.cells #[xs, ys] t)) :=
  ⟨_, rfl, h.new xs ys t⟩
theorem mid_set (h : FB b0 x y c0 x' y' b i p w w1) (n : NB g w1) (h1 : w.heap.size ≤ g) (h2 : g ≠ c0) (h3 : g ≠ b) (h4 : g ≠ w.heap.size + 1) : FillMid c0 x' y' xs ys b i p w (.pointer (some ⟨g, 0, none⟩)) ((w1.setCell ⟨g, 0, none⟩ xs).setCell ⟨g, 1, none⟩ ys) := by
  have o0 : ∀ (a : Addr), a.block ≠ g → ((w1.setCell ⟨g, 0, none⟩ xs).setCell ⟨g, 1, none⟩ ys).cell? a = w1.cell? a := fun a ha =>
    (World.cell?_setCell_other (h := fun e => ha (by rw [← e])) ..).trans (World.cell?_setCell_other (h := fun e => ha (by rw [← e])) ..)
  have q0 : ((w1.setCell ⟨g, 0, none⟩ xs).setCell ⟨g, 1, none⟩ ys).cell? ⟨g, 0, none⟩ = some xs := by
    rw [World.cell?_setCell_other (h := fun e => by injection e with _ e2 _; cases e2)]
    exact World.cell?_setCell_same (h := n.x) ..
  have q1 : ((w1.setCell ⟨g, 0, none⟩ xs).setCell ⟨g, 1, none⟩ ys).cell? ⟨g, 1, none⟩ = some ys := by
    refine World.cell?_setCell_same (u := .int .u64 0) (h := ?_) ..
    rw [World.cell?_setCell_other (h := fun e => by injection e with _ e2 _; cases e2)]
    exact n.y
  refine ⟨g, rfl, by simpa using h.lt', (o0 _ (fun e => h2 e.symm)).trans h.x', (o0 _ (fun e => h2 e.symm)).trans h.y', by simpa using n.lt, q0, q1, by simpa using h.lp, (o0 _ (fun e => h3 e.symm)).trans h.p, bSet (bSet h.b _ h1 _) _ h1 _, by simpa using h.r.lt, (o0 _ (fun e => h4 e.symm)).trans h.r.x, (o0 _ (fun e => h4 e.symm)).trans h.r.y, ?_, ?_⟩
  · rw [World.frozen?_setCell, World.frozen?_setCell]; exact h.r.fx
  · rw [World.frozen?_setCell, World.frozen?_setCell]; exact h.r.fy
end

/-- A store into a newer block. -/
theorem ButB.fresh {b : Nat} {w w1 : World} (h : ButB b w w1) {a : Addr} (ha : w.heap.size ≤ a.block) (v : Value) : ButB b w (w1.setCell a v) :=
  ⟨h.os, h.tape, h.output, by simpa using h.size, fun k hk hn => (heap_setCell_other w1 a k v (by omega)).trans (h.block k hk hn)⟩
theorem ButB.alloc {b : Nat} {w w1 : World} (h : ButB b w w1) (o : Obj) : ButB b w (w1.alloc o) := h.trans (ButB.of_below (bAl (bRef w1) o))

theorem fill_end {b0 c0 b i : Nat} {x y x' y' : Value} {p : Int} {w w7 : World} {cs : Array Value} {t : TypeId} (h : FB b0 x y c0 x' y' b i p w w7) (hb : w.heap[b]? = some (.cells cs t (0, 0))) (v r0 r1 : Value) (o : Obj) (W : World)
    (hW : W = (((w7.setCell ⟨b, i, none⟩ v).setCell ⟨w.heap.size + 1, 0, none⟩ r0).setCell ⟨w.heap.size + 1, 1, none⟩ r1).alloc o) :
    W.cell? ⟨w.heap.size + 1, 0, none⟩ = some r0 ∧ W.cell? ⟨w.heap.size + 1, 1, none⟩ = some r1 ∧ W.heap[b]? = some (.cells (cs.setIfInBounds i v) t (0, 0)) ∧ ButB b w W := by
  have hlt := lt_of_heap hb
  have hne : b ≠ w.heap.size + 1 := by omega
  have e1 : (w7.setCell ⟨b, i, none⟩ v).cell? ⟨w.heap.size + 1, 0, none⟩ = some (.int .u64 0) := by
    rw [World.cell?_setCell_other (h := fun e => by injection e with e1 _; exact hne e1)]
    exact h.r.x
  have e2 : (w7.setCell ⟨b, i, none⟩ v).cell? ⟨w.heap.size + 1, 1, none⟩ = some (.int .u64 0) := by
    rw [World.cell?_setCell_other (h := fun e => by injection e with e1 _; exact hne e1)]
    exact h.r.y
  have hb7 := (h.b.block b hlt).trans hb
  have k1 := heap_setCell_same w7 b i cs t v hb7
  have B1 : ButB b w (w7.setCell ⟨b, i, none⟩ v) := (ButB.of_below h.b).trans (set_but hb7 i v)
  generalize w7.setCell ⟨b, i, none⟩ v = w8 at *
  have f1 : (w8.setCell ⟨w.heap.size + 1, 0, none⟩ r0).cell? ⟨w.heap.size + 1, 0, none⟩ = some r0 := World.cell?_setCell_same (h := e1) ..
  have f2 : (w8.setCell ⟨w.heap.size + 1, 0, none⟩ r0).cell? ⟨w.heap.size + 1, 1, none⟩ = some (.int .u64 0) := by
    rw [World.cell?_setCell_other (h := fun e => by injection e with _ e2 _; cases e2)]
    exact e2
  have k2 := (heap_setCell_other w8 ⟨w.heap.size + 1, 0, none⟩ b r0 hne).trans k1
  have B2 : ButB b w (w8.setCell ⟨w.heap.size + 1, 0, none⟩ r0) := B1.fresh (by show _ ≤ w.heap.size + 1; omega) _
  generalize w8.setCell ⟨w.heap.size + 1, 0, none⟩ r0 = w9 at *
  have g1 : (w9.setCell ⟨w.heap.size + 1, 1, none⟩ r1).cell? ⟨w.heap.size + 1, 0, none⟩ = some r0 := by
    rw [World.cell?_setCell_other (h := fun e => by injection e with _ e2 _; cases e2)]
    exact f1
  have g2 : (w9.setCell ⟨w.heap.size + 1, 1, none⟩ r1).cell? ⟨w.heap.size + 1, 1, none⟩ = some r1 := World.cell?_setCell_same (h := f2) ..
  have k3 := (heap_setCell_other w9 ⟨w.heap.size + 1, 1, none⟩ b r1 hne).trans k2
  have B3 : ButB b w (w9.setCell ⟨w.heap.size + 1, 1, none⟩ r1) := B2.fresh (by show _ ≤ w.heap.size + 1; omega) _
  generalize w9.setCell ⟨w.heap.size + 1, 1, none⟩ r1 = wa at *
  subst hW
  have ba := bAl (bRef wa) o
  exact ⟨(ba.cell (block_lt_cell g1)).trans g1, (ba.cell (block_lt_cell g2)).trans g2, (ba.block b (lt_of_heap k3)).trans k3, B3.alloc o⟩

end Go.Proofs.Ytjkgeoipkcjobaa
