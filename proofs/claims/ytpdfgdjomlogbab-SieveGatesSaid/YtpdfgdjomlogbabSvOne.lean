/- New of one stream alone; a row of one stream that is built. -/
import Derived.Test.YtpdfgdjomlogbabSvHead2
namespace Go.Proofs.Ytpdfgdjomlogbab
open Go.RowKit Go.Joins

theorem run_bsSm (x : Sm) (W : World) : (Instr.buildSlice 22 1 #[(0, .agg (SA x))]).run Try.prog W = .ok (.slice (some ⟨W.heap.size, 0, none⟩) 1 1) (W.alloc (.cells (SA x) 28)) := by kernel_rfl
theorem bsSm_op {a : Act} {o : Oper} (s : Operand) (ho : o.op = .buildSlice 22 1 #[(0, s)]) {x : Sm} (hs : a.eval s = .agg (SA x)) (W : World) : (execOp a.eval o).run Try.prog W = .ok (.value (.slice (some ⟨W.heap.size, 0, none⟩) 1 1)) (W.alloc (.cells (SA x) 28)) := by
  have hm : (#[(0, s)] : Array (Nat × Operand)).map (fun (i, y) => (i, a.eval y)) = #[(0, .agg (SA x))] := by simp [hs]
  unfold execOp
  simp only [ho]
  rw [Sem.run_bind, hm, run_bsSm]
  rfl
theorem at_bsSm {ops : Array Oper} {rest : List Oper} {d : Option Tmp} {x : Operand} {t : TypeId} {s : String} {af : Array Edge} {a : Act} {w : World} {Q : Exit → Act → World → Prop}
    (h : wpList Try.prog ops Q (⟨d, .buildSlice 22 1 #[(0, x)], t, s, af, none⟩ :: rest) a w) : wpList Try.prog ops Q (⟨d, .buildSlice 22 1 #[(0, x)], t, s, af, none⟩ :: rest) a w := h
theorem wpList_bsSm {ops : Array Oper} {rest : List Oper} {o : Oper} {a : Act} {w : World} {Q : Exit → Act → World → Prop} (hgd : o.guard = none) (s : Operand) (ho : o.op = .buildSlice 22 1 #[(0, s)]) (x : Sm) (hs : a.eval s = .agg (SA x))
    (h : wpList Try.prog ops Q rest (a.put o.dst (.slice (some ⟨w.heap.size, 0, none⟩) 1 1)) (w.alloc (.cells (SA x) 28))) : wpList Try.prog ops Q (o :: rest) a w :=
  wpList_plain hgd fun K hK => by
    unfold Oper.wp
    rw [bsSm_op s ho hs w]
    exact hK _ _ h
theorem one_arg (w : World) (x : Sm) : SmArg (w.alloc (.cells (SA x) 28)) (.slice (some ⟨w.heap.size, 0, none⟩) 1 1) [x] := by
  refine .inr ⟨by simp, w.heap.size, 0, 1, rfl, by simp, by simp, fun k hk j u hu => ?_⟩
  have : k = 0 := by simpa using hk
  subst this
  exact row_cells (heap_alloc_one w _) j u hu
theorem allR_one {x : Sm} : AllR [x] ↔ Right x 0 0 := by
  constructor
  · intro h; exact h 0 (by simp)
  · intro h k hk
    have : k = 0 := by simpa using hk
    subst this; exact h
theorem new_yes (w : World) {x : Sm} (hr : Right x 0 0) : Calls Try.prog 8 #[.slice (some ⟨w.heap.size, 0, none⟩) 1 1, .slice none 0 0, .slice none 0 0, .int .i64 0] (w.alloc (.cells (SA x) 28)) fun e w' =>
    ∃ g cap, e = .returned (.tuple #[.pointer (some ⟨w.heap.size + 1, 0, none⟩), .int .i64 0]) ∧ NS (w.alloc (.cells (SA x) 28)) (w.heap.size + 1) (.slice (some ⟨g, 0, none⟩) 1 cap) [fl0 x] 0 w' ∧ 1 ≤ cap := by
  refine (newS_any 0 (one_arg w x) (by simp)).mono fun e w' hh => ?_
  obtain ⟨h1, _, _⟩ := hh
  obtain ⟨he, v, hns⟩ := h1 (allR_one.2 hr)
  have hsz : (w.alloc (.cells (SA x) 28)).heap.size = w.heap.size + 1 := by simp
  rw [hsz] at he hns
  obtain ⟨g, cap, rfl, hc⟩ := hns.pos (by simp)
  exact ⟨g, cap, he, hns, hc⟩
theorem new_no (w : World) {x : Sm} (hr : ¬ Right x 0 0) : Calls Try.prog 8 #[.slice (some ⟨w.heap.size, 0, none⟩) 1 1, .slice none 0 0, .slice none 0 0, .int .i64 0] (w.alloc (.cells (SA x) 28)) fun e w' =>
    e = .returned (.tuple #[.pointer none, .int .i64 1]) ∧ Below w.heap.size w w' := by
  refine (newS_any 0 (one_arg w x) (by simp)).mono fun e w' hh => ?_
  obtain ⟨_, h2, h3⟩ := hh
  exact ⟨h2 (fun h => hr (allR_one.1 h)), (bAl (bRef w) _).trans (h3.mono (by simp))⟩
theorem find_one (x : Sm) (p v : Int) (d s : M6) (h : Fits x p v d s) : findI [fl0 x] p v d s = 0 := by
  unfold findI
  exact firstI_some (k := 0) (by simp) (decide_eq_true h) (fun i hi => by omega)
theorem find_no (x : Sm) (p v : Int) (d s : M6) (h : ¬ Fits x p v d s) : findI [fl0 x] p v d s = -1 := by
  unfold findI
  refine firstI_none fun i hi => ?_
  have : i = 0 := by simpa using hi
  subst this
  exact decide_eq_false h

end Go.Proofs.Ytpdfgdjomlogbab
