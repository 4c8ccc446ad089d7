/- PeerOrder: what its end holds in memory. -/
import Derived.Test.YtnfoimkiihfalaaPeHead
namespace Go.Proofs.Ytnfoimkiihfalaa
open Go.RowKit Go.Joins

theorem run_loadVar_part {P : Program} (w : World) (g off : Nat) (ty : TypeId) (cs : Array Value) (d : TypeDesc) (hc : ∀ j v, cs.toList[j]? = some v → w.cell? ⟨g, off + j, none⟩ = some v)
    (hu : P.underlying ty = some d) (hd : (match d with | .struct _ | .array _ _ => true | _ => false) = true) (hi : (P.info? ty).map (·.size) = some cs.size) :
    (loadVar ty ⟨g, off, none⟩).run P w = .ok (.agg cs) w := by
  have hl : (loadCells ⟨g, off, none⟩ cs.toList.length).run P w = .ok cs.toList.toArray w :=
    run_loadCells_list (P := P) w ⟨g, off, none⟩ cs.toList (fun j v hv => by
      have hadd : (⟨g, off, none⟩ : Addr).add j = ⟨g, off + j, none⟩ := by unfold Addr.add; split <;> simp_all
      rw [hadd]
      exact hc j v hv)
  cases hq : P.info? ty with
  | none => simp [hq] at hi
  | some i =>
    have hs : i.size = cs.size := by simpa [hq] using hi
    have hagg : (isAgg ty).run P w = .ok true w := by
      unfold isAgg
      rw [Sem.run_bind, run_underlying hu w]
      cases d <;> simp_all
    simp only [Array.length_toList, Array.toArray_toList] at hl
    simp [loadVar, Sem.run_bind, hagg, sizeOf, typeInfo, hq, hs, hl]
theorem wpList_load_part {P : Program} {ops : Array Oper} {rest : List Oper} {o : Oper} {a : Act} {w : World} {Q : Exit → Act → World → Prop} (hgd : o.guard = none) (ty : TypeId) (x : Operand) (ho : o.op = .load ty x)
    (g off : Nat) (hx : a.eval x = .pointer (some ⟨g, off, none⟩)) (cs : Array Value) (d : TypeDesc) (hc : ∀ j v, cs.toList[j]? = some v → w.cell? ⟨g, off + j, none⟩ = some v)
    (hu : P.underlying ty = some d) (hd : (match d with | .struct _ | .array _ _ => true | _ => false) = true) (hi : (P.info? ty).map (·.size) = some cs.size)
    (h : wpList P ops Q rest (a.put o.dst (.agg cs)) w) : wpList P ops Q (o :: rest) a w :=
  wpList_plain hgd fun K hK => by
    unfold Oper.wp execOp
    simp only [ho, hx, Instr.loadAt, Instr.sureAddr, Sem.run_bind, Sem.run_pure, Result.andThen_ok, run_loadVar_part w g off ty cs d hc hu hd hi]
    exact hK _ _ h


def PO0 : PS := ⟨5, 1, 1099511627776, 1048576, 4, 3, 1, 1, 0, 0, 0, [], 0, 0, 0⟩
theorem po0_ask : (PS.new 5 1 1099511627776 1048576 4 3).ask = PO0 := rfl
theorem Try.builtOrd : Try.prog.built 30 [(0, .int .i64 3), (2, .int .i64 1), (3, .int .i64 9), (6, .int .i64 327680000), (7, .int .i64 5), (8, .int .i64 1)] = some #[.int .i64 3, .int .i64 0, .int .i64 1, .int .i64 9, .int .i64 0, .int .i64 0, .int .i64 327680000, .int .i64 5, .int .i64 1, .int .i64 0, .int .i64 0, .int .i64 0, .int .i64 0, .int .i64 0, .int .i64 0, .slice none 0 0] := by kernel_rfl
/-- The peer, and the two answers in blocks of their own. -/
structure OS (w : World) (b A B : Nat) (s : PS) (wr : World) : Prop where
  pr : Pr wr b s
  bl : Below w.heap.size w wr
  ra : wr.heap[A]? = some (.cells #[.int .i64 3, .int .i64 0, .int .i64 1, .int .i64 9, .int .i64 0, .int .i64 0, .int .i64 327680000, .int .i64 5, .int .i64 1, .int .i64 0, .int .i64 0, .int .i64 0, .int .i64 0, .int .i64 0, .int .i64 0, .slice none 0 0] 30 (0, 0))
  rb : wr.heap[B]? = some (.cells #[.int .i64 10, .int .i64 0, .int .i64 1, .int .i64 9, .int .i64 0, .int .i64 0, .int .i64 393216000, .int .i64 5, .int .i64 1, .int .i64 0, .int .i64 0, .int .i64 0, .int .i64 0, .int .i64 0, .int .i64 0, .slice none 0 0] 30 (0, 0))
  na : A ≠ b
  nb : B ≠ b
  lo : w.heap.size ≤ b
theorem OS.below {w wr wr' : World} {b A B : Nat} {s : PS} (h : OS w b A B s wr) (hb : Below wr.heap.size wr wr') : OS w b A B s wr' :=
  ⟨h.pr.below hb, bTr h.bl hb, (hb.block _ (lt_of_heap h.ra)).trans h.ra, (hb.block _ (lt_of_heap h.rb)).trans h.rb, h.na, h.nb, h.lo⟩
theorem OS.leave {w wr wr' : World} {b A B : Nat} {s s' : PS} (h : OS w b A B s wr) (hl : Leave b wr s' wr') : OS w b A B s' wr' :=
  ⟨hl.1, hl.2.into h.bl h.lo, (hl.2.block _ (lt_of_heap h.ra) h.na).trans h.ra, (hl.2.block _ (lt_of_heap h.rb) h.nb).trans h.rb, h.na, h.nb, h.lo⟩
theorem OS.start {w wr : World} {b A : Nat} {s : PS} (hp : Pr wr b s) (hb : Below w.heap.size w wr) (ha : wr.heap[A]? = some (.cells #[.int .i64 3, .int .i64 0, .int .i64 1, .int .i64 9, .int .i64 0, .int .i64 0, .int .i64 327680000, .int .i64 5, .int .i64 1, .int .i64 0, .int .i64 0, .int .i64 0, .int .i64 0, .int .i64 0, .int .i64 0, .slice none 0 0] 30 (0, 0))) (na : A ≠ b) (lo : w.heap.size ≤ b) : OS w b A wr.heap.size s (wr.alloc (.cells #[.int .i64 10, .int .i64 0, .int .i64 1, .int .i64 9, .int .i64 0, .int .i64 0, .int .i64 393216000, .int .i64 5, .int .i64 1, .int .i64 0, .int .i64 0, .int .i64 0, .int .i64 0, .int .i64 0, .int .i64 0, .slice none 0 0] 30)) :=
  ⟨hp.alloc _, bAl hb _, (heap_alloc_old wr _ (lt_of_heap ha)).trans ha, heap_alloc_new wr _, na, Nat.ne_of_gt hp.lt, lo⟩
section
variable {b : Nat} {W : World}
theorem chA (W : World) : ChkTo W (RespM 3 1 9 0 327680000 5 1) (.slice none 0 0) 0 := resp_to W (.inl rfl) (by decide) (by decide) (by decide) (by decide) (by decide) (by decide) (by decide) (by decide) (by decide) (by decide) ⟨by decide, by decide⟩
theorem chB (W : World) : ChkTo W (RespM 10 1 9 0 393216000 5 1) (.slice none 0 0) 0 := resp_to W (.inr rfl) (by decide) (by decide) (by decide) (by decide) (by decide) (by decide) (by decide) (by decide) (by decide) (by decide) ⟨by decide, by decide⟩
theorem ord_in0 (h : Pr W b PO0) : Calls Try.prog 20 #[.pointer (some ⟨b, 0, none⟩), .agg #[.int .i64 3, .int .i64 0, .int .i64 1, .int .i64 9, .int .i64 0, .int .i64 0, .int .i64 327680000, .int .i64 5, .int .i64 1, .int .i64 0, .int .i64 0, .int .i64 0, .int .i64 0, .int .i64 0, .int .i64 0, .slice none 0 0], .int .i64 0] W fun e w' => e = .returned (.int .i64 31) ∧ Below W.heap.size W w' := in_stage h (RespM 3 1 9 0 327680000 5 1) _ 0 rfl rfl rfl (by decide) (by decide)
theorem ord_sent (h : Pr W b PO0) : Calls Try.prog 19 #[.pointer (some ⟨b, 0, none⟩), .int .i64 1, .int .i64 65536000] W fun e w' => e = .returned (.tuple #[]) ∧ Leave b W { PO0 with t1 := 65536000, stage := 2 } w' := sent_one h 65536000 rfl
theorem ord_in1 (h : Pr W b { PO0 with t1 := 65536000, stage := 2 }) : Calls Try.prog 20 #[.pointer (some ⟨b, 0, none⟩), .agg #[.int .i64 10, .int .i64 0, .int .i64 1, .int .i64 9, .int .i64 0, .int .i64 0, .int .i64 393216000, .int .i64 5, .int .i64 1, .int .i64 0, .int .i64 0, .int .i64 0, .int .i64 0, .int .i64 0, .int .i64 0, .slice none 0 0], .int .i64 0] W fun e w' => e = .returned (.int .i64 31) ∧ Below W.heap.size W w' := in_early h (RespM 10 1 9 0 393216000 5 1) _ 0 rfl rfl rfl rfl (by decide)
theorem ord_in2 (h : Pr W b { PO0 with t1 := 65536000, stage := 2 }) : Calls Try.prog 20 #[.pointer (some ⟨b, 0, none⟩), .agg #[.int .i64 3, .int .i64 0, .int .i64 1, .int .i64 9, .int .i64 0, .int .i64 0, .int .i64 327680000, .int .i64 5, .int .i64 1, .int .i64 0, .int .i64 0, .int .i64 0, .int .i64 0, .int .i64 0, .int .i64 0, .slice none 0 0], .int .i64 157286400] W fun e w' => e = .returned (.int .i64 0) ∧ Leave b W { PO0 with t1 := 65536000, t2 := 327680000, t4 := 157286400, stage := 3 } w' := in_resp h (RespM 3 1 9 0 327680000 5 1) _ 157286400 rfl rfl rfl rfl rfl (chA W)
theorem ord_in3 (h : Pr W b { PO0 with t1 := 65536000, t2 := 327680000, t4 := 157286400, stage := 3 }) : Calls Try.prog 20 #[.pointer (some ⟨b, 0, none⟩), .agg #[.int .i64 3, .int .i64 0, .int .i64 1, .int .i64 9, .int .i64 0, .int .i64 0, .int .i64 327680000, .int .i64 5, .int .i64 1, .int .i64 0, .int .i64 0, .int .i64 0, .int .i64 0, .int .i64 0, .int .i64 0, .slice none 0 0], .int .i64 9] W fun e w' => e = .returned (.int .i64 31) ∧ Below W.heap.size W w' := in_twice h (RespM 3 1 9 0 327680000 5 1) _ 9 rfl rfl rfl rfl (by decide)
theorem ord_in4 (h : Pr W b { PO0 with t1 := 65536000, t2 := 327680000, t4 := 157286400, stage := 3 }) : Calls Try.prog 20 #[.pointer (some ⟨b, 0, none⟩), .agg #[.int .i64 10, .int .i64 0, .int .i64 1, .int .i64 9, .int .i64 0, .int .i64 0, .int .i64 393216000, .int .i64 5, .int .i64 1, .int .i64 0, .int .i64 0, .int .i64 0, .int .i64 0, .int .i64 0, .int .i64 0, .slice none 0 0], .int .i64 0] W fun e w' => e = .returned (.int .i64 0) ∧ Leave b W { PO0 with t1 := 65536000, t2 := 327680000, t4 := 157286400, ms := [(393216000, 157286400)], failed := 0, stage := 0 } w' := in_more h (RespM 10 1 9 0 393216000 5 1) _ 0 rfl rfl rfl rfl rfl (chB W) fun V hV => end_first hV 393216000 rfl (by decide) (by decide)
theorem ord_delay (h : Pr W b { PO0 with t1 := 65536000, t2 := 327680000, t4 := 157286400, ms := [(393216000, 157286400)], failed := 0, stage := 0 }) : Calls Try.prog 21 #[.pointer (some ⟨b, 0, none⟩)] W fun e w' => e = .returned (.int .i64 0) ∧ w' = W := delay_any h
theorem ord_in5 (h : Pr W b { PO0 with t1 := 65536000, t2 := 327680000, t4 := 157286400, ms := [(393216000, 157286400)], failed := 0, stage := 0 }) : Calls Try.prog 20 #[.pointer (some ⟨b, 0, none⟩), .agg #[.int .i64 10, .int .i64 0, .int .i64 1, .int .i64 9, .int .i64 0, .int .i64 0, .int .i64 393216000, .int .i64 5, .int .i64 1, .int .i64 0, .int .i64 0, .int .i64 0, .int .i64 0, .int .i64 0, .int .i64 0, .slice none 0 0], .int .i64 0] W fun e w' => e = .returned (.int .i64 31) ∧ Below W.heap.size W w' := in_stage h (RespM 10 1 9 0 393216000 5 1) _ 0 rfl rfl rfl (by decide) (by decide)
end
/-- Where the loop stands. -/
def OrdRel (w : World) (b cb : Nat) (n : Nat) (iv : Value) (wr : World) : Prop :=
  ∃ i : Nat, iv = .int .i64 (i : Int) ∧ i ≤ n ∧ i ≤ 30 ∧ Pr wr b PO0 ∧ Below w.heap.size w wr ∧ wr.cell? ⟨cb, 2, none⟩ = some (.int .i64 1)

end Go.Proofs.Ytnfoimkiihfalaa
