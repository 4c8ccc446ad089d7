/- Package sieve: New, of streams alone. -/
import Derived.Test.YtpdfgdjomlogbabSvFind2
import Derived.Test.YtpdfgdjomlogbabSvHand
import Derived.Great.BuildSlice
import Derived.Laws.Tables
namespace Go.Proofs.Ytpdfgdjomlogbab
open Go.RowKit Go.Joins

theorem run_buildFl (x : Sm) (W : World) : (Instr.build 58 #[(0, .agg (SA x))]).run Try.prog W = .ok (.agg (FA (fl0 x))) W := by kernel_rfl
theorem run_bsFl (f : Fl) (W : World) : (Instr.buildSlice 52 1 #[(0, .agg (FA f))]).run Try.prog W = .ok (.slice (some ⟨W.heap.size, 0, none⟩) 1 1) (W.alloc (.cells (FA f) 58)) := by kernel_rfl
theorem Try.infoFl : (Try.prog.info? 58).map (fun i => (i.zero, i.size, i.bytes)) = some (some (.agg (FA (fl0 default))), 21, 120) := by kernel_rfl
section
variable {ops : Array Oper} {Q : Exit → Act → World → Prop} {S : World → Prop} {fuel : Nat} {listed : Array Bool} {a : Act} {w : World}
theorem hOneS {i k : Nat} {o : Oper} {v : Value} {w' : World} (hr : Region.ready .any ops listed = [i]) (ho : ops[i]? = some o) (hd : o.dst = some k) (hw : Region.wanted o (yielded ops a.tmps) = true) (hx : (execOp a.eval o).run Try.prog w = .ok (.value v) w') (hS : S w')
    (h : wpAnyH Try.prog .any ops Q S fuel (listed.setIfInBounds i true) { a with tmps := a.tmps.setIfInBounds k v } w') : wpAnyH Try.prog .any ops Q S (fuel + 1) listed a w := by
  refine wpAnyH_ready hr (by simp) (AllReadyH.cons ho (fun K hK => ?_) AllReadyH.nil)
  rw [if_pos hw]
  unfold Oper.wp
  rw [hx]
  exact hK _ _ hS (fun _ => by rw [put_some k v _ hd]; exact h)
theorem hOneNS {i : Nat} {o : Oper} {w' : World} (hr : Region.ready .any ops listed = [i]) (ho : ops[i]? = some o) (hd : o.dst = none) (hw : Region.wanted o (yielded ops a.tmps) = true) (hx : (execOp a.eval o).run Try.prog w = .ok .skip w') (hS : S w')
    (h : wpAnyH Try.prog .any ops Q S fuel (listed.setIfInBounds i true) a w') : wpAnyH Try.prog .any ops Q S (fuel + 1) listed a w := by
  refine wpAnyH_ready hr (by simp) (AllReadyH.cons ho (fun K hK => ?_) AllReadyH.nil)
  rw [if_pos hw]
  unfold Oper.wp
  rw [hx]
  exact hK _ _ hS (fun _ => by rw [hd]; exact h)
theorem hTwoS {i j k m : Nat} {o p : Oper} {u v : Value} {w' w2 : World} (hr : Region.ready .any ops listed = [i, j]) (ho : ops[i]? = some o) (hp : ops[j]? = some p) (hd : o.dst = some k) (hd2 : p.dst = some m) (hw : Region.wanted o (yielded ops a.tmps) = true) (hw2 : Region.wanted p (yielded ops a.tmps) = true)
    (hx : (execOp a.eval o).run Try.prog w = .ok (.value v) w') (hx2 : (execOp a.eval p).run Try.prog w = .ok (.value u) w2) (hS : S w') (hS2 : S w2)
    (h : wpAnyH Try.prog .any ops Q S fuel (listed.setIfInBounds i true) { a with tmps := a.tmps.setIfInBounds k v } w') (h2 : wpAnyH Try.prog .any ops Q S fuel (listed.setIfInBounds j true) { a with tmps := a.tmps.setIfInBounds m u } w2) : wpAnyH Try.prog .any ops Q S (fuel + 1) listed a w := by
  refine wpAnyH_ready hr (by simp) (AllReadyH.cons ho (fun K hK => ?_) (AllReadyH.cons hp (fun K hK => ?_) AllReadyH.nil))
  · rw [if_pos hw]
    unfold Oper.wp
    rw [hx]
    exact hK _ _ hS (fun _ => by rw [put_some k v _ hd]; exact h)
  · rw [if_pos hw2]
    unfold Oper.wp
    rw [hx2]
    exact hK _ _ hS2 (fun _ => by rw [put_some m u _ hd2]; exact h2)
end
theorem app_op {a : Act} {o : Oper} {w w' : World} {v u v' : Value} (s x : Operand) (T : TypeId) (ho : o.op = .call { callee := .builtin .append, args := #[s, x], argTypes := #[T, T] }) (hs : a.eval s = v) (hx : a.eval x = u)
    (hr : ∀ ty, (Builtin.append_ #[T, T] ty #[v, u]).run Try.prog w = .ok v' w') : (execOp a.eval o).run Try.prog w = .ok (.value v') w' := by
  unfold execOp
  simp only [ho, resolve, invoke, builtin, Sem.run_bind, Sem.run_pure, Result.andThen_ok, List.map_toArray, List.map_cons, List.map_nil, hs, hx, hr]
theorem setRow_new (w : World) (cs cs' : Array Value) (t : TypeId) (fr : Nat × Nat) : (w.alloc (.cells cs t fr)).setRow w.heap.size cs' = w.alloc (.cells cs' t fr) := by
  have key : (w.heap.push (.cells cs t fr)).modify w.heap.size (fun | .cells _ elem frozen => .cells cs' elem frozen | o => o) = w.heap.push (.cells cs' t fr) := by
    apply Array.ext_getElem?
    intro i
    rw [Array.getElem?_modify]
    by_cases hi : w.heap.size = i
    · subst hi; simp
    · rw [if_neg hi, Array.getElem?_push, Array.getElem?_push, if_neg (fun e => hi e.symm), if_neg (fun e => hi e.symm)]
  exact congrArg (fun h => { w with heap := h }) key
/-- A stream stored into the newest block. -/
theorem at_storeSm {ops : Array Oper} {rest : List Oper} {d : Option Tmp} {x y : Operand} {t : TypeId} {s : String} {af : Array Edge} {a : Act} {w : World} {Q : Exit → Act → World → Prop}
    (h : wpList Try.prog ops Q (⟨d, .store 28 x y, t, s, af, none⟩ :: rest) a w) : wpList Try.prog ops Q (⟨d, .store 28 x y, t, s, af, none⟩ :: rest) a w := h
theorem wpList_storeSm {ops : Array Oper} {rest : List Oper} {o : Oper} {a : Act} {w : World} {Q : Exit → Act → World → Prop} (hgd : o.guard = none) (x y : Operand) (ho : o.op = .store 28 x y)
    (m : Sm) (old : Array Value) (hx : a.eval x = .pointer (some ⟨w.heap.size, 0, none⟩)) (hy : a.eval y = .agg (SA m)) (hold : old.size = 14)
    (h : wpList Try.prog ops Q rest (a.put o.dst undef) (w.alloc (.cells (SA m) 28))) : wpList Try.prog ops Q (o :: rest) a (w.alloc (.cells old 28)) :=
  wpList_store_row hgd 28 x y ho w.heap.size (SA m) hx hy 28 old (heap_alloc_one w _) (by rw [SA_size]; kernel_rfl) (by rw [hold, SA_size]) (SA_one m) (by rw [setRow_new]; exact h)
/-- A row of streams that is read. -/
def SmArg (W : World) (v : Value) (L : List Sm) : Prop :=
  (L = [] ∧ ∃ a c, v = .slice a 0 c ∧ (a = none → c = 0)) ∨ (0 < L.length ∧ ∃ g o cap, v = .slice (some ⟨g, o, none⟩) L.length cap ∧ g < W.heap.size ∧ L.length ≤ cap ∧ ∀ k, k < L.length → ∀ j u, (SA (L.getD k default)).toList[j]? = some u → W.cell? ⟨g, o + k * 14 + j, none⟩ = some u)
theorem SmArg.slice {W : World} {v : Value} {L : List Sm} (h : SmArg W v L) : ∃ p c, v = .slice p L.length c := by
  rcases h with ⟨rfl, p, c, rfl, _⟩ | ⟨_, g, o, c, rfl, _⟩
  · exact ⟨p, c, rfl⟩
  · exact ⟨_, c, rfl⟩
theorem SmArg.below {W W' : World} {v : Value} {L : List Sm} (h : SmArg W v L) (hb : Below W.heap.size W W') : SmArg W' v L := by
  rcases h with h | ⟨h0, g, o, c, e, hg, hc, hr⟩
  · exact .inl h
  · exact .inr ⟨h0, g, o, c, e, Nat.lt_of_lt_of_le hg hb.size, hc, fun k hk j u hu => (hb.cell hg).trans (hr k hk j u hu)⟩
def AllR (L : List Sm) : Prop := ∀ k, k < L.length → Right (L.getD k default) 0 0
def fls (L : List Sm) (k : Nat) : List Fl := (L.take k).map fl0
theorem fls_len (L : List Sm) {k : Nat} (h : k ≤ L.length) : (fls L k).length = k := by unfold fls; rw [List.length_map, List.length_take]; omega
theorem fls_succ (L : List Sm) {k : Nat} (h : k < L.length) : fls L (k + 1) = fls L k ++ [fl0 (L.getD k default)] := by
  unfold fls
  rw [List.take_succ_eq_append_getElem h, List.map_append]
  simp [List.getD_eq_getElem?_getD, h]
theorem fv_app (L M : List Fl) : fv (L ++ M) = fv L ++ fv M := by unfold fv; rw [List.flatMap_append]
/-- A sieve of flows that is being made, at b; its row is its own. -/
structure NS (w : World) (b : Nat) (v : Value) (L : List Fl) (oth : Int) (W : World) : Prop where
  box : SBox W b v (.slice none 0 0) (.slice none 0 0) oth
  row : W.ownsRow (b + 1) 58 21 v L.length (fv L)
  bel : Below w.heap.size w W
  bb : w.heap.size ≤ b
theorem row_lt {W : World} {B e sz n k : Nat} {v : Value} {xs : List Value} (h : W.ownsRow B e sz v n xs) (hk : v.ownBlock = some k) : B ≤ k ∧ k < W.heap.size := by
  rcases h.2 with ⟨rfl, _⟩ | ⟨g, cap, cur, rfl, hb, hg, _⟩
  · simp [Value.ownBlock] at hk
  · simp [Value.ownBlock] at hk
    subst hk
    exact ⟨hb, lt_of_heap hg⟩
theorem row_keep {W W' : World} {B e sz n : Nat} {v : Value} {xs : List Value} (h : W.ownsRow B e sz v n xs) (hk : ∀ k, v.ownBlock = some k → W'.heap[k]? = W.heap[k]?) : W'.ownsRow B e sz v n xs := by
  refine ⟨h.1, ?_⟩
  rcases h.2 with ⟨rfl, hz⟩ | ⟨g, cap, cur, rfl, hb, hg, hr⟩
  · exact .inl ⟨rfl, hz⟩
  · exact .inr ⟨g, cap, cur, rfl, hb, (hk g rfl).trans hg, hr⟩
theorem row_form {W : World} {B e sz n : Nat} {v : Value} {xs : List Value} (h : W.ownsRow B e sz v n xs) : ∃ p c, v = .slice p n c := by
  rcases h.2 with ⟨rfl, hz⟩ | ⟨g, cap, cur, rfl, _⟩
  · exact ⟨_, _, by rw [hz]⟩
  · exact ⟨_, _, rfl⟩
theorem NS.below {w W W' : World} {b : Nat} {v : Value} {L : List Fl} {oth : Int} (h : NS w b v L oth W) (hb : Below W.heap.size W W') : NS w b v L oth W' :=
  ⟨h.box.below hb, row_keep h.row fun k hk => hb.block k (row_lt h.row hk).2, bTr h.bel hb, h.bb⟩
/-- What the order of one step leaves as it is. -/
structure NStep (b r : Nat) (v : Value) (x : Sm) (W : World) : Prop where
  box : SBox W b v (.slice none 0 0) (.slice none 0 0) 0
  st : W.heap[r]? = some (.cells (SA x) 28 (0, 0))
theorem NStep.below {b r : Nat} {v : Value} {x : Sm} {W W' : World} (h : NStep b r v x W) (hb : Below W.heap.size W W') : NStep b r v x W' := ⟨h.box.below hb, (hb.block _ (lt_of_heap h.st)).trans h.st⟩
theorem NStep.cell {b r : Nat} {v : Value} {x : Sm} {W : World} (h : NStep b r v x W) : W.cell? ⟨b, 0, none⟩ = some v := cell_of_row _ _ 0 _ _ _ h.box
theorem load_sm {r : Nat} {x : Sm} {W : World} (h : W.heap[r]? = some (.cells (SA x) 28 (0, 0))) : (Instr.loadAt 28 (.pointer (some ⟨r, 0, none⟩))).run Try.prog W = .ok (.agg (SA x)) W := by
  simp only [Instr.loadAt, Instr.sureAddr, Sem.run_bind, Sem.run_pure, Result.andThen_ok]
  exact run_loadVar_part W r 0 _ (SA x) _ (row_cells h) Try.underlying28 rfl (by rw [SA_size]; kernel_rfl)
theorem load_op {a : Act} {o : Oper} (s : Operand) (ho : o.op = .load 28 s) {r : Nat} {x : Sm} (hs : a.eval s = .pointer (some ⟨r, 0, none⟩)) (W : World) (h : W.heap[r]? = some (.cells (SA x) 28 (0, 0))) : (execOp a.eval o).run Try.prog W = .ok (.value (.agg (SA x))) W := by
  unfold execOp
  simp only [ho, hs, Instr.loadAt, Instr.sureAddr, Sem.run_bind, Sem.run_pure, Result.andThen_ok, run_loadVar_part W r 0 _ (SA x) _ (row_cells h) Try.underlying28 rfl (by rw [SA_size]; kernel_rfl)]
theorem build_op {a : Act} {o : Oper} (s : Operand) (ho : o.op = .build 58 #[(0, s)]) {x : Sm} (hs : a.eval s = .agg (SA x)) (W : World) : (execOp a.eval o).run Try.prog W = .ok (.value (.agg (FA (fl0 x)))) W := by
  have hm : (#[(0, s)] : Array (Nat × Operand)).map (fun (i, y) => (i, a.eval y)) = #[(0, .agg (SA x))] := by simp [hs]
  unfold execOp
  simp only [ho]
  rw [Sem.run_bind, hm, run_buildFl]
  rfl
theorem bs_op {a : Act} {o : Oper} (s : Operand) (ho : o.op = .buildSlice 52 1 #[(0, s)]) {f : Fl} (hs : a.eval s = .agg (FA f)) (W : World) : (execOp a.eval o).run Try.prog W = .ok (.value (.slice (some ⟨W.heap.size, 0, none⟩) 1 1)) (W.alloc (.cells (FA f) 58)) := by
  have hm : (#[(0, s)] : Array (Nat × Operand)).map (fun (i, y) => (i, a.eval y)) = #[(0, .agg (FA f))] := by simp [hs]
  unfold execOp
  simp only [ho]
  rw [Sem.run_bind, hm, run_bsFl]
  rfl
theorem add_fl (b j : Nat) : (⟨b, 0, none⟩ : Addr).add j = ⟨b, 0 + j, none⟩ := by unfold Addr.add; split <;> simp_all
theorem own_ne {W : World} {B n r : Nat} {v : Value} {xs : List Value} {cs : Array Value} (h : W.ownsRow B 58 21 v n xs) (hr : W.heap[r]? = some (.cells cs 28 (0, 0))) : v.ownBlock ≠ some r := by
  rcases h.2 with ⟨rfl, _⟩ | ⟨g, cap, cur, rfl, hb, hg, _⟩
  · simp [Value.ownBlock]
  · intro e
    simp [Value.ownBlock] at e
    subst e
    rw [hg] at hr
    injection hr with hr
    injection hr with _ h2 _
    exact absurd h2 (by decide)
/-- The row has grown. -/
theorem NS.grow {w W W' : World} {b : Nat} {v v' : Value} {L : List Fl} {f : Fl} (h : NS w b v L 0 W) (h1 : W'.ownsRow (b + 1) 58 21 v' (L.length + 1) (fv L ++ (FA f).toList)) (hg : W.grownBy W' v.ownBlock) (hb : b < W.heap.size) :
    SBox W' b v (.slice none 0 0) (.slice none 0 0) 0 ∧ NS w b v' (L ++ [f]) 0 (W'.setCell ⟨b, 0, none⟩ v') ∧ Below w.heap.size W W' := by
  have hne : ∀ k, k < b + 1 → v.ownBlock ≠ some k := fun k hk e => by have := (row_lt h.row e).1; omega
  have hbb := h.bb
  have hbel : Below w.heap.size W W' := ⟨hg.os, hg.tape, hg.output, hg.size, fun k hk => hg.block k (by omega) (fun e => hne k (by omega) e.symm)⟩
  have hbox : SBox W' b v (.slice none 0 0) (.slice none 0 0) 0 := (hg.block b hb (fun e => hne b (by omega) e.symm)).trans h.box
  refine ⟨hbox, ⟨heap_setCell_same W' _ 0 _ _ _ hbox, ?_, (h.bel.trans hbel).setCell (by omega) _, hbb⟩, hbel⟩
  rw [List.length_append, fv_app]
  show World.ownsRow _ _ _ _ _ (L.length + 1) (fv L ++ fv [f])
  rw [show fv [f] = (FA f).toList by simp [fv]]
  exact row_keep h1 fun k hk => heap_setCell_other _ _ _ _ (by have := (row_lt h1 hk).1; simp; omega)

end Go.Proofs.Ytpdfgdjomlogbab
