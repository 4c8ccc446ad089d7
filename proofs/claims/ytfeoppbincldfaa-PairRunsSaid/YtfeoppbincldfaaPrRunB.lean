/- PairRuns: the step's box, and the parts of its body. Written by gen_prruns.py. -/
import Derived.Test.YtfeoppbincldfaaPrRunA
import Derived.Deep.CutRange
namespace Go.Proofs.Ytfeoppbincldfaa
open Go.RowKit Go.Joins Go.Deep

/-- What a step's box has. -/
def StB (W : World) (g : Nat) (st : Stp) : Prop := W.heap[g]? = some (.cells (StC st) 51 (0, 0))
section
variable {W W' : World} {g : Nat} {st : Stp} {I : Ids} {sp sl : PP}
theorem StB.below (h : StB W g st) (hb : Below W.heap.size W W') : StB W' g st := (hb.block _ (lt_of_heap h)).trans h
theorem StB.keep (h : StB W g st) {L : List Nat} (hb : ButS L W W') (hn : g ∉ L) : StB W' g st := (hb.block _ (lt_of_heap h) hn).trans h
theorem StB.not (h : StB W g st) (hr : RunP I W sp sl) : g ∉ I.L := hr.not h (by decide) (by decide) (by decide) (by decide)
theorem StB.drew (h : StB W g st) : StB W.drew g st := h
theorem StB.k (h : StB W g st) : W.cell? ⟨g, 0, none⟩ = some (.int .i64 st.k) := cell_of_row W g 0 _ _ _ h
theorem StB.dom (h : StB W g st) : W.cell? ⟨g, 2, none⟩ = some (.int .i64 st.mu.m.dom) := cell_of_row W g 2 _ _ _ h
theorem StB.path (h : StB W g st) : W.cell? ⟨g, 16, none⟩ = some (st.mu.u) := cell_of_row W g 16 _ _ _ h
theorem StB.at_ (h : StB W g st) : W.cell? ⟨g, 17, none⟩ = some (.int .i64 st.at_) := cell_of_row W g 17 _ _ _ h
theorem StB.r (h : StB W g st) : W.cell? ⟨g, 18, none⟩ = some (.int .i64 st.r) := cell_of_row W g 18 _ _ _ h
theorem StB.d (h : StB W g st) : W.cell? ⟨g, 19, none⟩ = some (.int .i64 st.d) := cell_of_row W g 19 _ _ _ h
theorem StB.on (h : StB W g st) : W.cell? ⟨g, 20, none⟩ = some (.bool st.on) := cell_of_row W g 20 _ _ _ h
theorem StB.n (h : StB W g st) : W.cell? ⟨g, 21, none⟩ = some (.int .i64 st.n) := cell_of_row W g 21 _ _ _ h
theorem StB.msg (h : StB W g st) : W.rangeAt g 1 (MC st.mu.m st.mu.u).toList := fun j x hx => by
  have hj : j < 16 := by
    have := (List.getElem?_eq_some_iff.mp hx).1
    simpa [MC] using this
  rw [cell_of_row W g (1 + j) _ _ _ h]
  rw [← hx]
  rcases (show j = 0 ∨ j = 1 ∨ j = 2 ∨ j = 3 ∨ j = 4 ∨ j = 5 ∨ j = 6 ∨ j = 7 ∨ j = 8 ∨ j = 9 ∨ j = 10 ∨ j = 11 ∨ j = 12 ∨ j = 13 ∨ j = 14 ∨ j = 15 by omega) with rfl | rfl | rfl | rfl | rfl | rfl | rfl | rfl | rfl | rfl | rfl | rfl | rfl | rfl | rfl | rfl <;> rfl
theorem Stat.keepC (h : Stat I sp.most W) {c : Nat} {s : CS} (hc : Ck W c s) (hb : ButB c W W') : Stat I sp.most W' := by
  unfold Ck at hc
  have hb' := ButS.of_but (L := [c]) hb (by simp)
  refine h.keep hb' ?_ ?_ ?_
  · simp only [List.mem_cons, List.not_mem_nil, or_false]; exact ty_ne h.M hc (by decide)
  · simp only [List.mem_cons, List.not_mem_nil, or_false]; exact ty_ne h.S hc (by decide)
  · simp only [List.mem_cons, List.not_mem_nil, or_false]; exact ty_ne h.R hc (by decide)
/-- What a step leaves. -/
def Done (I : Ids) (W W' : World) : Prop := ∃ s : PP, RunP I W' s s ∧ s.Ok ∧ ButS I.L W W'
end
theorem loadOp {a : Act} {o : Oper} {W : World} (ty : TypeId) (x : Operand) (ho : o.op = .load ty x) (b f : Nat) (cs : Array Value) (d : TypeDesc) (hc : W.rangeAt b f cs.toList) (hu : Try.prog.underlying ty = some d) (hd : d.isRow = true) (hi : (Try.prog.info? ty).map (·.size) = some cs.size) (hx : a.eval x = .pointer (some ⟨b, f, none⟩)) : (execOp a.eval o).run Try.prog W = .ok (.value (.agg cs)) W := by
  have k := run_loadAt_mid (P := Try.prog) W b f ty cs.toList _ hc hu hd (by simpa using hi)
  unfold execOp
  simp only [ho, hx]
  rw [Sem.run_bind, k]
  rfl
/-- The first region of a code. -/
def firstReg : Code → Option Nat
  | .region n _ _ => some n
  | .seq a _ => firstReg a
  | .block _ c => firstReg c
  | .loop c => firstReg c
  | .scope c => firstReg c
  | _ => none
/-- The parts that begin with a region, the largest first. -/
def partsAt (n : Nat) : Code → List Code
  | .seq a b => (if firstReg (.seq a b) = some n then [.seq a b] else []) ++ (partsAt n a ++ partsAt n b)
  | .block i c => (if firstReg c = some n then [.block i c] else []) ++ partsAt n c
  | .loop c => (if firstReg c = some n then [.loop c] else []) ++ partsAt n c
  | .scope c => (if firstReg c = some n then [.scope c] else []) ++ partsAt n c
  | .cond _ a b => partsAt n a ++ partsAt n b
  | .region m o d => if m = n then [.region m o d] else []
  | _ => []
noncomputable def partOf (n i : Nat) : Code := (Try.f3.body.map fun c => (partsAt n c).getD i .skip).getD .skip

theorem wp_hideP {P : Program} {c : Code} {Q : Exit → Act → World → Prop} {a : Act} {w : World} (hP : ∀ c (ax : Act) (kx : Option Nat) (vx : Value) (wx : World), Q (.panic c) (ax.put kx vx) wx → Q (.panic c) ax wx)
    (h : ∀ Q' : Exit → Act → World → Prop, (∀ e a w, Q e a w → Q' e a w) → (∀ c (ax : Act) (kx : Option Nat) (vx : Value) (wx : World), Q' (.panic c) (ax.put kx vx) wx → Q' (.panic c) ax wx) → c.wp P Q' a w) : c.wp P Q a w := h Q (fun _ _ _ q => q) hP
theorem at_loadG' {ops : Array Oper} {rest : List Oper} {d : Option Tmp} {x : Operand} {t : TypeId} {s : String} {af : Array Edge} {gd : Option (Nat × Bool)} {a : Act} {w : World} {Q : Exit → Act → World → Prop}
    (h : wpList Try.prog ops Q (⟨d, .load 37 x, t, s, af, gd⟩ :: rest) a w) : wpList Try.prog ops Q (⟨d, .load 37 x, t, s, af, gd⟩ :: rest) a w := h

end Go.Proofs.Ytfeoppbincldfaa
