/- Variables of two words, kept over calls that only make memory. -/
import Derived.Test.YtfohfpeeghnocabMulDiv
import Derived.Deep.Draws
namespace Go.Proofs.Ytfohfpeeghnocab
open Go.RowKit

structure St (w0 : World) (l : List (Nat × Value × Value)) (w : World) : Prop where
  below : Below w0.heap.size w0 w
  box : ∀ p ∈ l, Box2 w p.1 p.2.1 p.2.2
  order : l.Pairwise (fun p q => q.1 < p.1)

def Off (b : Nat) : List (Nat × Value × Value) → Prop
  | [] => True
  | q :: r => (¬ q.1 = b ∧ ¬ b = q.1) ∧ Off b r
/-- No two of the variables are one. -/
def Apart : List (Nat × Value × Value) → Prop
  | [] => True
  | p :: r => Off p.1 r ∧ Apart r

def Facts (w : World) : List (Nat × Value × Value) → Prop
  | [] => True
  | p :: r => (p.1 < w.heap.size ∧ w.cell? ⟨p.1, 0, none⟩ = some p.2.1 ∧ w.cell? ⟨p.1, 1, none⟩ = some p.2.2 ∧ w.frozen? ⟨p.1, 0, none⟩ = false ∧ w.frozen? ⟨p.1, 1, none⟩ = false) ∧ Facts w r

section
variable {w0 w w' : World} {l : List (Nat × Value × Value)}
theorem St.start (w : World) : St w [] w := ⟨bRef w, fun p hp => absurd hp (by simp), List.Pairwise.nil⟩
theorem St.call (h : St w0 l w) (hb : Below w.heap.size w w') : St w0 l w' := ⟨bTr h.below hb, fun p hp => (h.box p hp).below hb, h.order⟩
theorem St.drew (h : St w0 l w) : St w0 l w.drew := ⟨h.below.drew, h.box, h.order⟩
theorem St.drewN (h : St w0 l w) (n : Nat) : St w0 l (w.drewN n) := ⟨bDr h.below n, h.box, h.order⟩
theorem St.alloc2 (h : St w0 l w) (x y : Value) (t : TypeId) : St w0 ((w.heap.size, x, y) :: l) (w.alloc (.cells #[x, y] t)) :=
  ⟨bAl h.below _, fun p hp => by
    rcases List.mem_cons.1 hp with rfl | hp
    · exact Box2.new w x y t
    · exact (h.box p hp).below (bAl (bRef w) _), List.pairwise_cons.2 ⟨fun q hq => (h.box q hq).1, h.order⟩⟩
theorem St.alloc (h : St w0 l w) (o : Obj) : St w0 l (w.alloc o) := h.call (bAl (bRef w) o)
theorem St.sub {l' : List (Nat × Value × Value)} (h : St w0 l w) (hs : l'.Sublist l) : St w0 l' w := ⟨h.below, fun p hp => h.box p (hs.subset hp), h.order.sublist hs⟩
theorem off_of {b : Nat} (h : ∀ q ∈ l, q.1 < b) : Off b l := by
  induction l with
  | nil => exact trivial
  | cons q r ih =>
    have := h q (List.mem_cons_self ..)
    exact ⟨⟨by omega, by omega⟩, ih fun p hp => h p (List.mem_cons_of_mem _ hp)⟩
theorem St.apart (h : St w0 l w) : Apart l := by
  have ho := h.order
  clear h
  induction l with
  | nil => exact trivial
  | cons p r ih =>
    have := List.pairwise_cons.1 ho
    exact ⟨off_of this.1, ih this.2⟩
theorem St.at (h : St w0 l w) {b : Nat} {x y : Value} (hp : (b, x, y) ∈ l) : w.cell? ⟨b, 0, none⟩ = some x ∧ w.cell? ⟨b, 1, none⟩ = some y := ⟨(h.box _ hp).2.1, (h.box _ hp).2.2.1⟩
theorem St.four {b1 b2 b3 b4 : Nat} {x1 y1 x2 y2 x3 y3 x4 y4 : Value} (h : St w0 [(b1, x1, y1), (b2, x2, y2), (b3, x3, y3), (b4, x4, y4)] w) :
    w.cell? ⟨b1, 0, none⟩ = some x1 ∧ w.cell? ⟨b1, 1, none⟩ = some y1 ∧ w.cell? ⟨b2, 0, none⟩ = some x2 ∧ w.cell? ⟨b2, 1, none⟩ = some y2 ∧
    w.cell? ⟨b3, 0, none⟩ = some x3 ∧ w.cell? ⟨b3, 1, none⟩ = some y3 ∧ w.cell? ⟨b4, 0, none⟩ = some x4 ∧ w.cell? ⟨b4, 1, none⟩ = some y4 ∧
    St w0 [(b1, x1, y1), (b2, x2, y2), (b3, x3, y3), (b4, x4, y4)] w :=
  ⟨(h.at (b := b1) (x := x1) (y := y1) (by simp)).1, (h.at (b := b1) (x := x1) (y := y1) (by simp)).2, (h.at (b := b2) (x := x2) (y := y2) (by simp)).1, (h.at (b := b2) (x := x2) (y := y2) (by simp)).2, (h.at (b := b3) (x := x3) (y := y3) (by simp)).1, (h.at (b := b3) (x := x3) (y := y3) (by simp)).2, (h.at (b := b4) (x := x4) (y := y4) (by simp)).1, (h.at (b := b4) (x := x4) (y := y4) (by simp)).2, h⟩
theorem St.three {b1 b2 b3 : Nat} {x1 y1 x2 y2 x3 y3 : Value} (h : St w0 [(b1, x1, y1), (b2, x2, y2), (b3, x3, y3)] w) :
    w.cell? ⟨b1, 0, none⟩ = some x1 ∧ w.cell? ⟨b1, 1, none⟩ = some y1 ∧ w.cell? ⟨b2, 0, none⟩ = some x2 ∧ w.cell? ⟨b2, 1, none⟩ = some y2 ∧
    w.cell? ⟨b3, 0, none⟩ = some x3 ∧ w.cell? ⟨b3, 1, none⟩ = some y3 ∧ St w0 [(b1, x1, y1), (b2, x2, y2), (b3, x3, y3)] w :=
  ⟨(h.at (b := b1) (x := x1) (y := y1) (by simp)).1, (h.at (b := b1) (x := x1) (y := y1) (by simp)).2, (h.at (b := b2) (x := x2) (y := y2) (by simp)).1, (h.at (b := b2) (x := x2) (y := y2) (by simp)).2, (h.at (b := b3) (x := x3) (y := y3) (by simp)).1, (h.at (b := b3) (x := x3) (y := y3) (by simp)).2, h⟩
theorem St.facts (h : St w0 l w) : Facts w l := by
  have hb := h.box
  clear h
  induction l with
  | nil => exact trivial
  | cons p r ih => exact ⟨hb p (List.mem_cons_self ..), ih fun q hq => hb q (List.mem_cons_of_mem _ hq)⟩
end

end Go.Proofs.Ytfohfpeeghnocab
