/- Package sieve: Find. -/
import Derived.Test.YtpdfgdjomlogbabSvRight
namespace Go.Proofs.Ytpdfgdjomlogbab
open Go.RowKit Go.Joins

theorem run_loadVar_part {P : Program} (w : World) (g off : Nat) (ty : TypeId) (cs : Array Value) (d : TypeDesc) (hc : ∀ j v, cs.toList[j]? = some v → w.cell? ⟨g, off + j, none⟩ = some v)
    (hu : P.underlying ty = some d) (hd : (match d with | .struct _ | .array _ _ => true | _ => false) = true) (hi : (P.info? ty).map (·.size) = some cs.size) :
    (loadVar ty ⟨g, off, none⟩).run P w = .ok (.agg cs) w := by
  have hl : (loadCells ⟨g, off, none⟩ cs.toList.length).run P w = .ok cs.toList.toArray w :=
    run_loadCells_list (P := P) w ⟨g, off, none⟩ cs.toList (fun j v hv => by
      have hadd : (⟨g, off, none⟩ : Addr).add j = ⟨g, off + j, none⟩ := by unfold Addr.add; split <;> simp_all
      rw [hadd]
      exact hc j v hv)
  cases hq : P.info? ty with
  | none => simp [hq] at hi
  | some i =>
    have hs : i.size = cs.size := by simpa [hq] using hi
    have hagg : (isAgg ty).run P w = .ok true w := by
      unfold isAgg
      rw [Sem.run_bind, run_underlying hu w]
      cases d <;> simp_all
    simp only [Array.length_toList, Array.toArray_toList] at hl
    simp [loadVar, Sem.run_bind, hagg, sizeOf, typeInfo, hq, hs, hl]
theorem wpList_load_part {P : Program} {ops : Array Oper} {rest : List Oper} {o : Oper} {a : Act} {w : World} {Q : Exit → Act → World → Prop} (hgd : o.guard = none) (ty : TypeId) (x : Operand) (ho : o.op = .load ty x)
    (g off : Nat) (hx : a.eval x = .pointer (some ⟨g, off, none⟩)) (cs : Array Value) (d : TypeDesc) (hc : ∀ j v, cs.toList[j]? = some v → w.cell? ⟨g, off + j, none⟩ = some v)
    (hu : P.underlying ty = some d) (hd : (match d with | .struct _ | .array _ _ => true | _ => false) = true) (hi : (P.info? ty).map (·.size) = some cs.size)
    (h : wpList P ops Q rest (a.put o.dst (.agg cs)) w) : wpList P ops Q (o :: rest) a w :=
  wpList_plain hgd fun K hK => by
    unfold Oper.wp execOp
    simp only [ho, hx, Instr.loadAt, Instr.sureAddr, Sem.run_bind, Sem.run_pure, Result.andThen_ok, run_loadVar_part w g off ty cs d hc hu hd hi]
    exact hK _ _ h
/-- Stands only where a stream, a flow is loaded. -/
theorem at_loadSm {ops : Array Oper} {rest : List Oper} {d : Option Tmp} {x : Operand} {t : TypeId} {s : String} {af : Array Edge} {a : Act} {w : World} {Q : Exit → Act → World → Prop}
    (h : wpList Try.prog ops Q (⟨d, .load 28 x, t, s, af, none⟩ :: rest) a w) : wpList Try.prog ops Q (⟨d, .load 28 x, t, s, af, none⟩ :: rest) a w := h
theorem at_loadFl {ops : Array Oper} {rest : List Oper} {d : Option Tmp} {x : Operand} {t : TypeId} {s : String} {af : Array Edge} {a : Act} {w : World} {Q : Exit → Act → World → Prop}
    (h : wpList Try.prog ops Q (⟨d, .load 58 x, t, s, af, none⟩ :: rest) a w) : wpList Try.prog ops Q (⟨d, .load 58 x, t, s, af, none⟩ :: rest) a w := h
theorem wpList_loadSm {ops : Array Oper} {rest : List Oper} {o : Oper} {a : Act} {w : World} {Q : Exit → Act → World → Prop} (hgd : o.guard = none) (x : Operand) (ho : o.op = .load 28 x)
    (g off : Nat) (hx : a.eval x = .pointer (some ⟨g, off, none⟩)) (y : Sm) (hc : ∀ j v, (SA y).toList[j]? = some v → w.cell? ⟨g, off + j, none⟩ = some v)
    (h : wpList Try.prog ops Q rest (a.put o.dst (.agg (SA y))) w) : wpList Try.prog ops Q (o :: rest) a w :=
  wpList_load_part hgd _ x ho g off hx (SA y) _ hc Try.underlying28 rfl (by rw [SA_size]; kernel_rfl) h
theorem wpList_loadFl {ops : Array Oper} {rest : List Oper} {o : Oper} {a : Act} {w : World} {Q : Exit → Act → World → Prop} (hgd : o.guard = none) (x : Operand) (ho : o.op = .load 58 x)
    (g off : Nat) (hx : a.eval x = .pointer (some ⟨g, off, none⟩)) (y : Fl) (hc : ∀ j v, (FA y).toList[j]? = some v → w.cell? ⟨g, off + j, none⟩ = some v)
    (h : wpList Try.prog ops Q rest (a.put o.dst (.agg (FA y))) w) : wpList Try.prog ops Q (o :: rest) a w :=
  wpList_load_part hgd _ x ho g off hx (FA y) _ hc Try.underlying58 rfl (by rw [FA_size]; kernel_rfl) h
theorem row_cells {w : World} {g : Nat} {cs : Array Value} {t : TypeId} (h : w.heap[g]? = some (.cells cs t (0, 0))) : ∀ j v, cs.toList[j]? = some v → w.cell? ⟨g, 0 + j, none⟩ = some v := fun j v hv => by
  unfold World.cell?
  simp only [h, Nat.zero_add]
  simpa using hv
/-- What Find's closure has. -/
structure FB (W : World) (b : Nat) (p v : Int) (d s : M6) : Prop where
  h0 : W.heap[b]? = some (.cells #[.int .i64 p] 3 (0, 0))
  h1 : W.heap[b + 1]? = some (.cells #[.int .i64 v] 3 (0, 0))
  h2 : W.heap[b + 1 + 1]? = some (.cells (MC d) 26 (0, 0))
  h3 : W.heap[b + 1 + 1 + 1]? = some (.cells (MC s) 26 (0, 0))
theorem FB.below {W W' : World} {b : Nat} {p v : Int} {d s : M6} (h : FB W b p v d s) (hb : Below W.heap.size W W') : FB W' b p v d s :=
  ⟨(hb.block _ (lt_of_heap h.h0)).trans h.h0, (hb.block _ (lt_of_heap h.h1)).trans h.h1, (hb.block _ (lt_of_heap h.h2)).trans h.h2, (hb.block _ (lt_of_heap h.h3)).trans h.h3⟩
abbrev cbs (b : Nat) : Array Value := #[.pointer (some ⟨b, 0, none⟩), .pointer (some ⟨b + 1, 0, none⟩), .pointer (some ⟨b + 1 + 1, 0, none⟩), .pointer (some ⟨b + 1 + 1 + 1, 0, none⟩)]
set_option maxHeartbeats 1000000 in
theorem find1_any {W : World} {b : Nat} {p v : Int} {d s : M6} (h : FB W b p v d s) (f : Fl) :
    Calls Try.prog 21 (#[.agg (FA f)] ++ cbs b) W fun e w' => e = .returned (.bool (decide (Fits f.st p v d s))) ∧ Below W.heap.size W w' := by
  have hB := bAl (bRef W) (.cells (FA f) 58)
  have h' := h.below hB
  have HB := Lib.hid hB
  have k0 := cell_of_row _ _ 0 _ _ _ h'.h0
  have k1 := cell_of_row _ _ 0 _ _ _ h'.h1
  obtain ⟨a0, a1, a2, a3, a4, a5⟩ : _ ∧ _ ∧ _ ∧ _ ∧ _ ∧ _ := ⟨cell_of_row _ _ 0 _ _ _ h'.h2, cell_of_row _ _ 1 _ _ _ h'.h2, cell_of_row _ _ 2 _ _ _ h'.h2, cell_of_row _ _ 3 _ _ _ h'.h2, cell_of_row _ _ 4 _ _ _ h'.h2, cell_of_row _ _ 5 _ _ _ h'.h2⟩
  obtain ⟨b0, b1, b2, b3, b4, b5⟩ : _ ∧ _ ∧ _ ∧ _ ∧ _ ∧ _ := ⟨cell_of_row _ _ 0 _ _ _ h'.h3, cell_of_row _ _ 1 _ _ _ h'.h3, cell_of_row _ _ 2 _ _ _ h'.h3, cell_of_row _ _ 3 _ _ _ h'.h3, cell_of_row _ _ 4 _ _ _ h'.h3, cell_of_row _ _ 5 _ _ _ h'.h3⟩
  have HR := Lib.hid (fun j u (hj : (SA f.st).toList[j]? = some u) => row_cells (heap_alloc_one W (.cells (FA f) 58)) j u (FA_st f j u hj))
  have HF := Lib.hid (fits_any f.st p v d s)
  clear h h' hB
  go_enter Try.func21, Try.ntmps21
  go_wp2_with (first
    | (with_reducible refine at_loadSm ?_; refine wpList_loadSm rfl _ rfl W.heap.size 0 rfl f.st HR.out ?_)
    | (go_at_call 22; (with_reducible refine (HF.out _).mono ?_); rintro e w2 ⟨rfl, hb⟩; have HB2 := Lib.hid (bTr HB.out hb); clear hb))
  go_ret
  exact ⟨rfl, HB2.out⟩

end Go.Proofs.Ytpdfgdjomlogbab
