/- Package ptp: what holds while numbers are read. -/
import Derived.Test.YtcdcklkbjfhhnaaPtNext
import Derived.Laws.ResultCell
import Derived.Laws.CopyOwn
namespace Go.Proofs.Ytcdcklkbjfhhnaa
open Go.RowKit Go.Joins

def ZC : Array Value := #[.int .i64 0, .int .i64 0, .int .i64 0, .int .i64 0, .int .i64 0, .int .i64 0, .int .i64 0, .int .i64 0, .int .i64 0, .int .i64 0, .int .i64 0, .int .i64 0, .int .i64 0, .int .i64 0, .int .i64 0, .slice none 0 0]
theorem Try.builtZ : Try.prog.built 28 [] = some ZC := by kernel_rfl
/-- No message, built. -/
theorem wpList_buildZ {ops : Array Oper} {rest : List Oper} {o : Oper} {a : Act} {w : World} {Q : Exit → Act → World → Prop} (hg : o.guard = none) (ho : o.op = .build 28 #[])
    (h : wpList Try.prog ops Q rest (a.put o.dst (.agg ZC)) w) : wpList Try.prog ops Q (o :: rest) a w := by
  refine wpList_build hg 28 #[] ho ?_ ?_
  · rw [Array.map_empty]
    show (Try.prog.built 28 []).isSome = true
    rw [Try.builtZ]; rfl
  · rw [Array.map_empty]
    show wpList Try.prog ops Q rest (a.put o.dst (.agg ((Try.prog.built 28 []).getD #[]))) w
    rw [Try.builtZ]; exact h
theorem at_buildZ {ops : Array Oper} {rest : List Oper} {d : Option Tmp} {t : TypeId} {s : String} {af : Array Edge} {a : Act} {w : World} {Q : Exit → Act → World → Prop}
    (h : wpList Try.prog ops Q (⟨d, .build 28 #[], t, s, af, none⟩ :: rest) a w) : wpList Try.prog ops Q (⟨d, .build 28 #[], t, s, af, none⟩ :: rest) a w := h
theorem MC_one (m : Mg) (p : Option Addr) (n c : Nat) : (MC m (.slice p n c)).all (·.oneCell') = true := mc_one m p n c
theorem bodyM2 {fn : Func} {R : Ending → World → Prop} {a : Act} {w : World} {p u : Tmp} (h : fn.results = #[.cell p 28, .tmp u]) (g : Nat) (cells : Array Value) (x : Value) (hp : a.tmps.getD p undef = .pointer (some ⟨g, 0, none⟩)) (hu : a.tmps.getD u undef = x)
    (hg : w.heap[g]? = some (.cells cells 28 (0, 0))) (hs : cells.size = 16) (hd : a.defers = []) (hr : R (.returned (.tuple #[.agg cells, x])) w) : bodyPost Try.prog fn R Exit.ret a w := by
  refine bodyPost_ret (v := .tuple #[.agg cells, x]) ?_ hd hr
  rw [results_cell_tmp h, hp, hu]
  have h2 := run_loadVar_row (P := Try.prog) w g 28 28 cells (0, 0) _ hg Try.underlying28 rfl (by rw [hs]; kernel_rfl)
  simp [asAddr, h2]

theorem setRow_off (w : World) (g i : Nat) (cs : Array Value) (h : i ≠ g) : (w.setRow g cs).heap[i]? = w.heap[i]? := by
  unfold World.setRow
  simp only [Array.getElem?_modify]
  rw [if_neg (fun e => h e.symm)]
theorem setRow_siz (w : World) (g : Nat) (cs : Array Value) : (w.setRow g cs).heap.size = w.heap.size := by unfold World.setRow; simp

section
variable {w0 W W' : World} {b o gm gr : Nat} {xs : List Nat} {s s' : St}
theorem NS.below (h : NS w0 b o xs gm gr s W) (hb : Below W.heap.size W W') : NS w0 b o xs gm gr s W' := by
  obtain ⟨h1, ⟨oo, c, h2, hc⟩, h3, h4, h5, h6, h7⟩ := h
  have lt : ∀ i x, W.heap[i]? = some x → i < W.heap.size := fun i x hi => by
    rcases Nat.lt_or_ge i W.heap.size with g | g
    · exact g
    · rw [Array.getElem?_eq_none g] at hi; cases hi
  exact ⟨(hb.block gm (lt _ _ h1)).trans h1, ⟨oo, c, (hb.block gr (lt _ _ h2)).trans h2, hc⟩, h3.trans (hb.mono h3.size), h4, h5, h6, h7⟩
theorem NS.lt (h : NS w0 b o xs gm gr s W) : gm < W.heap.size ∧ gr < W.heap.size := by
  obtain ⟨h1, ⟨oo, c, h2, _⟩, _⟩ := h
  constructor
  · rcases Nat.lt_or_ge gm W.heap.size with g | g
    · exact g
    · rw [Array.getElem?_eq_none g] at h1; cases h1
  · rcases Nat.lt_or_ge gr W.heap.size with g | g
    · exact g
    · rw [Array.getElem?_eq_none g] at h2; cases h2
theorem NS.put (h : NS w0 b o xs gm gr s W) {g : Nat} (h1 : g ≠ gm) (h2 : g ≠ gr) (hg : w0.heap.size ≤ g) (i : Nat) (v : Value) : NS w0 b o xs gm gr s (W.setCell ⟨g, i, none⟩ v) := by
  obtain ⟨k1, ⟨oo, c, k2, hc⟩, k3, k4⟩ := h
  exact ⟨(heap_setCell_other W _ gm v (fun e => h1 e.symm)).trans k1, ⟨oo, c, (heap_setCell_other W _ gr v (fun e => h2 e.symm)).trans k2, hc⟩, k3.setCell hg _, k4⟩
theorem NS.row (h : NS w0 b o xs gm gr s W) {g : Nat} (h1 : g ≠ gm) (h2 : g ≠ gr) (hg : w0.heap.size ≤ g) (cs : Array Value) : NS w0 b o xs gm gr s (W.setRow g cs) := by
  obtain ⟨k1, ⟨oo, c, k2, hc⟩, k3, k4⟩ := h
  exact ⟨(setRow_off W g gm cs (fun e => h1 e.symm)).trans k1, ⟨oo, c, (setRow_off W g gr cs (fun e => h2 e.symm)).trans k2, hc⟩, below_setRow k3 hg cs, k4⟩
end
/-- Of what was there, all but the two blocks is as it was. -/
def Kept2 (gm gr : Nat) (W W' : World) : Prop := W.heap.size ≤ W'.heap.size ∧ ∀ i, i < W.heap.size → i ≠ gm → i ≠ gr → W'.heap[i]? = W.heap[i]?
theorem Kept2.but {gm gr : Nat} {W W1 W2 : World} (h : Kept2 gm gr W W1) (k : But2 gm gr W1 W2) : Kept2 gm gr W W2 :=
  ⟨by rw [k.1]; exact h.1, fun i h1 h2 h3 => (k.2 i h2 h3).trans (h.2 i h1 h2 h3)⟩
theorem Kept2.put {gm gr : Nat} {W W1 : World} (h : Kept2 gm gr W W1) {g : Nat} (hg : W.heap.size ≤ g) (i : Nat) (v : Value) : Kept2 gm gr W (W1.setCell ⟨g, i, none⟩ v) :=
  ⟨by simpa using h.1, fun j h1 h2 h3 => (heap_setCell_other W1 _ j v (by show j ≠ g; omega)).trans (h.2 j h1 h2 h3)⟩
theorem Kept2.row {gm gr : Nat} {W W1 : World} (h : Kept2 gm gr W W1) {g : Nat} (hg : W.heap.size ≤ g) (cs : Array Value) : Kept2 gm gr W (W1.setRow g cs) :=
  ⟨by rw [setRow_siz]; exact h.1, fun j h1 h2 h3 => (setRow_off W1 g j cs (by omega)).trans (h.2 j h1 h2 h3)⟩
theorem Kept2.below {gm gr : Nat} {W W1 W2 : World} (h : Kept2 gm gr W W1) (k : Below W1.heap.size W1 W2) : Kept2 gm gr W W2 :=
  ⟨Nat.le_trans h.1 k.size, fun i h1 h2 h3 => (k.block i (Nat.lt_of_lt_of_le h1 h.1)).trans (h.2 i h1 h2 h3)⟩

/-- What holds while numbers are read: the state, the message so far, none to answer yet. -/
def RS (w0 : World) (b o : Nat) (xs : List Nat) (gm gr : Nat) (W : World) (s : St) (m : Mg) (v : Value) (wc : World) : Prop :=
  NS w0 b o xs gm gr s wc ∧ Boxed wc (W.heap.size + 1) m v ∧ wc.heap[W.heap.size]? = some (.cells ZC 28 (0, 0)) ∧ Kept2 gm gr W wc ∧ gm < W.heap.size ∧ gr < W.heap.size ∧ w0.heap.size ≤ W.heap.size
section
variable {w0 W wc wc' : World} {b o gm gr : Nat} {xs : List Nat} {s s' : St} {m m' : Mg} {v v' : Value}
theorem RS.call (h : RS w0 b o xs gm gr W s m v wc) (hn : NS w0 b o xs gm gr s' wc') (hb : But2 gm gr wc wc') : RS w0 b o xs gm gr W s' m v wc' :=
  ⟨hn, (hb.2 _ (by have := h.2.2.2.2.1; omega) (by have := h.2.2.2.2.2.1; omega)).trans h.2.1, (hb.2 _ (by have := h.2.2.2.2.1; omega) (by have := h.2.2.2.2.2.1; omega)).trans h.2.2.1, h.2.2.2.1.but hb, h.2.2.2.2⟩
theorem RS.put (h : RS w0 b o xs gm gr W s m v wc) (i : Nat) (x : Value) (hm : (MC m v).setIfInBounds i x = MC m' v') : RS w0 b o xs gm gr W s m' v' (wc.setCell ⟨W.heap.size + 1, i, none⟩ x) := by
  obtain ⟨h1, h2, h3, h4, h5, h6, h7⟩ := h
  refine ⟨h1.put (by omega) (by omega) (by omega) i x, ?_, (heap_setCell_other wc _ _ x (by show _ ≠ W.heap.size + 1; omega)).trans h3, h4.put (by omega) i x, h5, h6, h7⟩
  have := heap_setCell_same wc (W.heap.size + 1) i _ _ x h2
  rw [hm] at this
  exact this
theorem RS.ns (h : RS w0 b o xs gm gr W s m v wc) : NS w0 b o xs gm gr s wc := h.1
theorem RS.box (h : RS w0 b o xs gm gr W s m v wc) : Boxed wc (W.heap.size + 1) m v := h.2.1
theorem RS.zero (h : RS w0 b o xs gm gr W s m v wc) : wc.heap[W.heap.size]? = some (.cells ZC 28 (0, 0)) := h.2.2.1
theorem RS.fr (h : RS w0 b o xs gm gr W s m v wc) (i : Nat) : wc.frozen? ⟨W.heap.size + 1, i, none⟩ = false := frozen_of_row wc _ i _ _ h.2.1
theorem RS.start (h : NS w0 b o xs gm gr s W) (hw : w0.heap.size ≤ W.heap.size) : RS w0 b o xs gm gr W s Mg.zero (.slice none 0 0) ((W.alloc (.cells ZC 28)).alloc (.cells ZC 28)) :=
  ⟨h.below (bAl (bAl (bRef W) _) _), heap_alloc2_new W _ _, heap_alloc2_old W _ _, ⟨by simp; omega, fun i hi _ _ => (bAl (bAl (bRef W) (.cells ZC 28)) (.cells ZC 28)).block i hi⟩, h.lt.1, h.lt.2, hw⟩
end
/-- The next number is this. -/
def NxTo (w0 : World) (b o : Nat) (xs : List Nat) (gm gr : Nat) (s : St) (n : Nat) (x : Int) (s' : St) : Prop :=
  ∀ W, NS w0 b o xs gm gr s W → Calls Try.prog 25 #[.int .i64 (n : Int), .pointer (some ⟨gm, 0, none⟩), .pointer (some ⟨gr, 0, none⟩)] W fun e W' => e = .returned (.int .i64 x) ∧ NS w0 b o xs gm gr s' W' ∧ But2 gm gr W W'
theorem NxTo.go {w0 : World} {b o gm gr n : Nat} {xs : List Nat} {s s' : St} {x : Int} (h : NxTo w0 b o xs gm gr s n x s') (z : Int) (hz : z = (n : Int)) (W : World) (hs : NS w0 b o xs gm gr s W) :
    Calls Try.prog 25 #[.int .i64 z, .pointer (some ⟨gm, 0, none⟩), .pointer (some ⟨gr, 0, none⟩)] W fun e W' => e = .returned (.int .i64 x) ∧ NS w0 b o xs gm gr s' W' ∧ But2 gm gr W W' := by
  subst hz; exact h W hs
/-- What read answers. -/
def RPost (w0 : World) (b o : Nat) (xs : List Nat) (gm gr : Nat) (W : World) (s : St) (m : Mg) (v : Value) (err : Int) (e : Ending) (w' : World) : Prop :=
  e = .returned (.tuple #[.agg (MC m v), .int .i64 err]) ∧ NS w0 b o xs gm gr s w' ∧ Kept2 gm gr W w'

end Go.Proofs.Ytcdcklkbjfhhnaa
