/- MergeRuns: a region that draws its order, with a call and a new box that may come ahead of it or behind it, taken operation by operation. -/
import Derived.Test.YtnkblihdgfhcdaaMgGP
import Derived.OrdersHeld
import Derived.Deep.RegionHeld
namespace Go.Proofs.Ytnkblihdgfhcdaa
open Go.RowKit Go.Joins

section
variable {ops : Array Oper} {Q : Exit → Act → World → Prop} {S : World → Prop} {fuel : Nat} {listed : Array Bool} {a : Act} {w : World}
theorem put_some (k : Nat) (v : Value) (d : Option Tmp) (hd : d = some k) : a.put d v = { a with tmps := a.tmps.setIfInBounds k v } := by subst hd; rfl
/-- An operation that yields in whatever world meets S is taken first. -/
theorem hTake {i k : Nat} {o : Oper} {v : Value} (hi : ops[i]? = some o) (hd : o.dst = some k) (hs : Region.noSelect ops = true) (hf : Region.free .any ops listed i = true) (hr : (Region.ready .any ops listed).contains i = true)
    (hQ : ∀ c a w, Q (.panic c) (a.put o.dst v) w → Q (.panic c) a w) (hy : YieldsIf Try.prog ops S o v a) (hS : S w)
    (h : wpAnyH Try.prog .any ops Q S fuel (listed.setIfInBounds i true) { a with tmps := a.tmps.setIfInBounds k v } w) : wpAnyH Try.prog .any ops Q S (fuel + 1) listed a w :=
  wpAnyH_take hi hs hf hr hQ hy hS (by rw [put_some k v _ hd]; exact h)
theorem yieldsIf_val {o : Oper} {v : Value} (hw : Region.wanted o (yielded ops a.tmps) = true) (h : ∀ W, (execOp a.eval o).run Try.prog W = .ok (.value v) W) : YieldsIf Try.prog ops S o v a := .inl ⟨hw, fun W _ => h W⟩
/-- The one operation that may come up now. -/
theorem hOneS {i k : Nat} {o : Oper} {v : Value} {w' : World} (hr : Region.ready .any ops listed = [i]) (ho : ops[i]? = some o) (hd : o.dst = some k) (hw : Region.wanted o (yielded ops a.tmps) = true) (hx : (execOp a.eval o).run Try.prog w = .ok (.value v) w') (hS : S w')
    (h : wpAnyH Try.prog .any ops Q S fuel (listed.setIfInBounds i true) { a with tmps := a.tmps.setIfInBounds k v } w') : wpAnyH Try.prog .any ops Q S (fuel + 1) listed a w := by
  refine wpAnyH_ready hr (by simp) (AllReadyH.cons ho (fun K hK => ?_) AllReadyH.nil)
  rw [if_pos hw]
  unfold Oper.wp
  rw [hx]
  exact hK _ _ hS (fun _ => by rw [put_some k v _ hd]; exact h)
theorem hOneNS {i : Nat} {o : Oper} {w' : World} (hr : Region.ready .any ops listed = [i]) (ho : ops[i]? = some o) (hd : o.dst = none) (hw : Region.wanted o (yielded ops a.tmps) = true) (hx : (execOp a.eval o).run Try.prog w = .ok .skip w') (hS : S w')
    (h : wpAnyH Try.prog .any ops Q S fuel (listed.setIfInBounds i true) a w') : wpAnyH Try.prog .any ops Q S (fuel + 1) listed a w := by
  refine wpAnyH_ready hr (by simp) (AllReadyH.cons ho (fun K hK => ?_) AllReadyH.nil)
  rw [if_pos hw]
  unfold Oper.wp
  rw [hx]
  exact hK _ _ hS (fun _ => by rw [hd]; exact h)
/-- A call, where nothing else may come up. -/
theorem hCallR {i k : Nat} {o : Oper} (hr : Region.ready .any ops listed = [i]) (ho : ops[i]? = some o) (hd : o.dst = some k) (hw : Region.wanted o (yielded ops a.tmps) = true) (f : FuncId) (args : Array Value)
    (hx : (execOp a.eval o).run Try.prog w = .ok (.enter f args) w) {R : Ending → World → Prop} (hc : Calls Try.prog f args w R)
    (h : ∀ e W', R e W' → ∃ v, e = .returned v ∧ S W' ∧ wpAnyH Try.prog .any ops Q S fuel (listed.setIfInBounds i true) { a with tmps := a.tmps.setIfInBounds k v } W') : wpAnyH Try.prog .any ops Q S (fuel + 1) listed a w := by
  refine wpAnyH_ready hr (by simp) (AllReadyH.cons ho (fun K hK => ?_) AllReadyH.nil)
  rw [if_pos hw]
  unfold Oper.wp
  rw [hx]
  refine hc.mono fun e W' hh => ?_
  obtain ⟨v, rfl, hS', hk⟩ := h e W' hh
  exact hK _ _ hS' (fun _ => by rw [put_some k v _ hd]; exact hk)
/-- A call, or an operation that yields. -/
theorem hCallOr {i j k m : Nat} {o p : Oper} {u : Value} {w2 : World} (hr : Region.ready .any ops listed = [i, j]) (ho : ops[i]? = some o) (hp : ops[j]? = some p) (hd : o.dst = some k) (hd2 : p.dst = some m) (hw : Region.wanted o (yielded ops a.tmps) = true) (hw2 : Region.wanted p (yielded ops a.tmps) = true) (f : FuncId) (args : Array Value)
    (hx : (execOp a.eval o).run Try.prog w = .ok (.enter f args) w) {R : Ending → World → Prop} (hc : Calls Try.prog f args w R)
    (hx2 : (execOp a.eval p).run Try.prog w = .ok (.value u) w2) (hS2 : S w2)
    (h : ∀ e W', R e W' → ∃ v, e = .returned v ∧ S W' ∧ wpAnyH Try.prog .any ops Q S fuel (listed.setIfInBounds i true) { a with tmps := a.tmps.setIfInBounds k v } W')
    (h2 : wpAnyH Try.prog .any ops Q S fuel (listed.setIfInBounds j true) { a with tmps := a.tmps.setIfInBounds m u } w2) : wpAnyH Try.prog .any ops Q S (fuel + 1) listed a w := by
  refine wpAnyH_ready hr (by simp) (AllReadyH.cons ho (fun K hK => ?_) (AllReadyH.cons hp (fun K hK => ?_) AllReadyH.nil))
  · rw [if_pos hw]
    unfold Oper.wp
    rw [hx]
    refine hc.mono fun e W' hh => ?_
    obtain ⟨v, rfl, hS', hk⟩ := h e W' hh
    exact hK _ _ hS' (fun _ => by rw [put_some k v _ hd]; exact hk)
  · rw [if_pos hw2]
    unfold Oper.wp
    rw [hx2]
    exact hK _ _ hS2 (fun _ => by rw [put_some m u _ hd2]; exact h2)
end

/-- A new box for a state; a state is stored in one. -/
def rz : RQ := ⟨0, 0, 0, false, 0, [], 0, 0, 0, 0, 0, 0, 0⟩
theorem alloc_op {a : Act} {o : Oper} (ho : o.op = .alloc 39) (W : World) : (execOp a.eval o).run Try.prog W = .ok (.value (.pointer (some ⟨W.heap.size, 0, none⟩))) (W.alloc (.cells (RA rz (.slice none 0 0)) 39)) := by
  unfold execOp
  simp only [ho]
  kernel_rfl
theorem store_op {a : Act} {o : Oper} {w : World} (x y : Operand) (ho : o.op = .store 39 x y) (g : Nat) (r r' : RQ) (p : Option Addr) (n c : Nat) (v' : Value) (hx : a.eval x = .pointer (some ⟨g, 0, none⟩)) (hy : a.eval y = RV r (.slice p n c)) (hg : RB w g r' v') :
    (execOp a.eval o).run Try.prog w = .ok .skip (w.setRow g (RA r (.slice p n c))) := by
  have k := run_storeVar_row (P := Try.prog) w g 39 39 _ (RA r (.slice p n c)) hg (by kernel_rfl) rfl (RA_one r p n c)
  unfold execOp
  simp only [ho, hx, hy, Instr.storeAt, Instr.sureAddr, Sem.run_bind, Sem.run_pure, Result.andThen_ok, k]

def StepB (W : World) (so : Nat) (z0 : Bool) (z1 z2 z3 : Int) : Prop := W.heap[so]? = some (.cells #[.bool z0, .int .i64 z1, .int .i64 z2, .int .i64 z3] 70 (0, 0))
theorem StepB.lt {W : World} {so : Nat} {z0 : Bool} {z1 z2 z3 : Int} (h : StepB W so z0 z1 z2 z3) : so < W.heap.size := lt_of_heap h
theorem StepB.below {W W' : World} {so : Nat} {z0 : Bool} {z1 z2 z3 : Int} (h : StepB W so z0 z1 z2 z3) (hb : Below W.heap.size W W') : StepB W' so z0 z1 z2 z3 := (hb.block so h.lt).trans h
theorem StepB.cells {W : World} {so : Nat} {z0 : Bool} {z1 z2 z3 : Int} (h : StepB W so z0 z1 z2 z3) : W.cell? ⟨so, 0, none⟩ = some (.bool z0) ∧ W.cell? ⟨so, 1, none⟩ = some (.int .i64 z1) ∧ W.cell? ⟨so, 2, none⟩ = some (.int .i64 z2) ∧ W.cell? ⟨so, 3, none⟩ = some (.int .i64 z3) :=
  ⟨cell_of_row _ _ 0 _ _ _ h, cell_of_row _ _ 1 _ _ _ h, cell_of_row _ _ 2 _ _ _ h, cell_of_row _ _ 3 _ _ _ h⟩
/-- The reference's state of a way went through its In, and lies in a box of its own. -/
def Mid39 (w : World) (b lo hi g qa : Nat) (q : CF) (M : MG) (rs : Nat → RQ) (vs : Nat → Value) (ra : RQ) (va : Value) (so : Nat) (z1 z2 z3 : Int) (P : RQ → Prop) (T f : Int) (q24 q25 q26 : Value) (W : World) : Prop :=
  ∃ r2 v bx, q24 = .pointer (some ⟨bx, 0, none⟩) ∧ q25 = .int .i64 T ∧ q26 = .int .i64 f ∧ LA W v r2.had ∧ RB W bx r2 v ∧ GS w b lo hi g qa q M rs vs ra va W ∧ StepB W so false z1 z2 z3 ∧ so < bx ∧ P r2
def S39 (w : World) (b lo hi g qa : Nat) (q : CF) (M : MG) (rs : Nat → RQ) (vs : Nat → Value) (ra : RQ) (va : Value) (so : Nat) (z1 z2 z3 : Int) (W : World) : Prop := GS w b lo hi g qa q M rs vs ra va W ∧ StepB W so false z1 z2 z3
section
variable {w : World} {b lo hi g qa : Nat} {q : CF} {M : MG} {rs : Nat → RQ} {vs : Nat → Value} {ra : RQ} {va : Value} {so : Nat} {z1 z2 z3 : Int} {W W' : World}
theorem S39.below (h : S39 w b lo hi g qa q M rs vs ra va so z1 z2 z3 W) (hb : Below W.heap.size W W') : S39 w b lo hi g qa q M rs vs ra va so z1 z2 z3 W' := ⟨h.1.below hb, h.2.below hb⟩
/-- A state's box of the call's own is written. -/
theorem GS.setX (h : GS w b lo hi g qa q M rs vs ra va W) {bx : Nat} {r0 : RQ} {v0 : Value} (hx : RB W bx r0 v0) (hq : qa < bx) (r : RQ) (v : Value) : GS w b lo hi g qa q M rs vs ra va (W.setRow bx (RA r v)) := by
  have h2 := h.h2
  have h3 := h.h3
  have h1 := h.h1
  have ht := h.mg.top
  have hgl := h.row.lt
  have ki : ∀ (b' : Nat) (cur : Array Value) (fr' : Nat × Nat), W.heap[b']? = some (.cells cur 3 fr') → (W.setRow bx (RA r v)).heap[b']? = some (.cells cur 3 fr') := fun b' cur fr' hb' => (setRow_other W bx b' _ (fun e2 => by
    unfold RB at hx
    rw [e2, hx] at hb'
    injection hb' with hb'
    injection hb' with _ h8 _
    exact absurd h8 (by decide))).trans hb'
  have hbel := below_setRow h.bel (g := bx) (by omega) (RA r v)
  have eg := setRow_other W bx g (RA r v) (by omega)
  obtain ⟨⟨cs, r1, r2⟩, r3, r4, r5⟩ := h.row
  exact ⟨h.mg.keep (by rw [show (W.setRow bx (RA r v)).heap.size = W.heap.size by simp [World.setRow]]; exact Nat.le_refl _) (fun i hi1 hi2 => setRow_other W bx i _ (by omega)), ⟨⟨cs, eg.trans r1, r2⟩, fun k hk => range_keep (r3 k hk) eg, fun k hk => (r4 k hk).keep ki, r5⟩, (setRow_other W bx qa _ (by omega)).trans h.box, h.la.keep ki, (setRow_other W bx _ _ (by omega)).trans h.cf, hbel, h.h1, h.h2, h.h3⟩
theorem S39.setX (h : S39 w b lo hi g qa q M rs vs ra va so z1 z2 z3 W) {bx : Nat} {r0 : RQ} {v0 : Value} (hx : RB W bx r0 v0) (hq : qa < bx) (hs : so < bx) (r : RQ) (v : Value) : S39 w b lo hi g qa q M rs vs ra va so z1 z2 z3 (W.setRow bx (RA r v)) :=
  ⟨h.1.setX hx hq r v, (setRow_other W bx so _ (by omega)).trans h.2⟩
theorem LA.setX {xs : List Int} {l : Value} (h : LA W l xs) {bx : Nat} {r0 : RQ} {v0 : Value} (hx : RB W bx r0 v0) (r : RQ) (v : Value) : LA (W.setRow bx (RA r v)) l xs := h.keep fun b' cur fr' hb' => (setRow_other W bx b' _ (fun e2 => by
    unfold RB at hx
    rw [e2, hx] at hb'
    injection hb' with hb'
    injection hb' with _ h8 _
    exact absurd h8 (by decide))).trans hb'
/-- What is left of the region once the state is there: it is stored in its box. -/
theorem S39.ends (h : S39 w b lo hi g qa q M rs vs ra va so z1 z2 z3 W) {bx : Nat} {r0 : RQ} {v0 : Value} (hx : RB W bx r0 v0) (hq : qa < bx) (hs : so < bx) {P : RQ → Prop} {T f : Int} {r2 : RQ} {v : Value} (hl : LA W v r2.had) (hp : P r2) :
    Mid39 w b lo hi g qa q M rs vs ra va so z1 z2 z3 P T f (.pointer (some ⟨bx, 0, none⟩)) (.int .i64 T) (.int .i64 f) (W.setRow bx (RA r2 v)) :=
  ⟨r2, v, bx, rfl, rfl, rfl, hl.setX hx r2 v, setRow_heap _ _ _ _ _ _ hx, (h.setX hx hq hs r2 v).1, (h.setX hx hq hs r2 v).2, hs, hp⟩
theorem S39.mid (h : S39 w b lo hi g qa q M rs vs ra va so z1 z2 z3 W) {P : RQ → Prop} {T f : Int} {r2 : RQ} {v : Value} {bx : Nat} (hl : LA W v r2.had) (hr : RB W bx r2 v) (hs : so < bx) (hp : P r2) :
    Mid39 w b lo hi g qa q M rs vs ra va so z1 z2 z3 P T f (.pointer (some ⟨bx, 0, none⟩)) (.int .i64 T) (.int .i64 f) W := ⟨r2, v, bx, rfl, rfl, rfl, hl, hr, h.1, h.2, hs, hp⟩
end
section
variable {q : CF} {k : Nat} {M : MG} {rs : Nat → RQ} {ra : RQ} {next passed again silent : Int}
/-- A number that isn't one: the reference's state of its way counts nothing. -/
theorem GP.frame_bad (h : GP q k M rs ra next passed again silent) {y : Nat} {r1 : RQ} (hr1 : RR (M.ones y) r1) (hl1 : r1.had.length ≤ (rs y).had.length + 1) (hy : y < q.n) : GP q (k + 1) M (upd rs y r1) ra next passed again silent := by
  have hy2 := (h.one y hy).2
  obtain ⟨h1, h2, h3, h4, h5, h6, h7, h8, h9, p0, p1, a0, a1, s0, s1, t0, t1, e1, e2⟩ := h
  refine ⟨h1, h2, h3, h4, fun i hi => ?_, ⟨h6.1, by have := h6.2; omega⟩, h7, h8, h9, p0, by omega, a0, by omega, s0, by omega, t0, t1, e1, e2⟩
  by_cases e : i = y
  · subst e
    rw [upd_same]
    exact ⟨hr1, by omega⟩
  · rw [upd_other _ _ e]
    exact ⟨(h5 i hi).1, by have := (h5 i hi).2; omega⟩
end

end Go.Proofs.Ytnkblihdgfhcdaa
