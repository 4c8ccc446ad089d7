/- Regions that draw their order, taken operation by operation: what holds of the world is one predicate, kept by each call. -/
import Derived.Test.YtbpkjljienadiaaEForm
import Derived.OrdersHeld
import Derived.Deep.RegionHeld
namespace Go.Proofs.Ytbpkjljienadiaa
open Go.RowKit Go.Joins

section
variable {ops : Array Oper} {Q : Exit → Act → World → Prop} {S : World → Prop} {fuel : Nat} {listed : Array Bool} {a : Act} {w : World}

/-- A frame that lies in a block of its own, loaded. -/
theorem yieldsIf_loadF {o : Oper} (hw : Region.wanted o (yielded ops a.tmps) = true) (x : Operand) (ho : o.op = .load 26 x) (g : Nat) (hx : a.eval x = .pointer (some ⟨g, 0, none⟩))
    (f : Fr) (u : Value) (hS : ∀ W, S W → Boxed W g f u) : YieldsIf Try.prog ops S o (.agg (FC f u)) a :=
  .inl ⟨hw, fun W hW => by
    have h := run_loadVar_row W g 26 26 (FC f u) (0, 0) _ (hS W hW) Try.underlying26 rfl (by kernel_rfl)
    unfold execOp
    simp only [ho, hx, Instr.loadAt, Instr.sureAddr, Sem.run_bind, Sem.run_pure, Result.andThen_ok, h]⟩

theorem put_some (k : Nat) (v : Value) (d : Option Tmp) (hd : d = some k) : a.put d v = { a with tmps := a.tmps.setIfInBounds k v } := by subst hd; rfl
/-- An operation that yields in whatever world meets S is taken first. -/
theorem hTake {i k : Nat} {o : Oper} {v : Value} (hi : ops[i]? = some o) (hd : o.dst = some k) (hs : Region.noSelect ops = true) (hf : Region.free .any ops listed i = true) (hr : (Region.ready .any ops listed).contains i = true)
    (hQ : ∀ c a w, Q (.panic c) (a.put o.dst v) w → Q (.panic c) a w) (hy : YieldsIf Try.prog ops S o v a) (hS : S w)
    (h : wpAnyH Try.prog .any ops Q S fuel (listed.setIfInBounds i true) { a with tmps := a.tmps.setIfInBounds k v } w) : wpAnyH Try.prog .any ops Q S (fuel + 1) listed a w :=
  wpAnyH_take hi hs hf hr hQ hy hS (by rw [put_some k v _ hd]; exact h)
theorem yieldsIf_val {o : Oper} {v : Value} (hw : Region.wanted o (yielded ops a.tmps) = true) (h : ∀ W, (execOp a.eval o).run Try.prog W = .ok (.value v) W) : YieldsIf Try.prog ops S o v a := .inl ⟨hw, fun W _ => h W⟩
theorem yieldsIf_skip {o : Oper} (hw : Region.wanted o (yielded ops a.tmps) = false) : YieldsIf Try.prog ops S o undef a := .inr ⟨hw, rfl⟩

/-- A call that keeps S, where nothing else may come up. -/
theorem hCall {i k : Nat} {o : Oper} (hr : Region.ready .any ops listed = [i]) (ho : ops[i]? = some o) (hd : o.dst = some k) (hw : Region.wanted o (yielded ops a.tmps) = true) (f : FuncId) (args : Array Value)
    (hx : ∀ W, (execOp a.eval o).run Try.prog W = .ok (.enter f args) W) (v : Value) (hc : ∀ W, S W → Calls Try.prog f args W fun e W' => e = .returned v ∧ S W') (hS : S w)
    (h : ∀ W', S W' → wpAnyH Try.prog .any ops Q S fuel (listed.setIfInBounds i true) { a with tmps := a.tmps.setIfInBounds k v } W') : wpAnyH Try.prog .any ops Q S (fuel + 1) listed a w := by
  refine wpAnyH_ready hr (by simp) (AllReadyH.cons ho (fun K hK => ?_) AllReadyH.nil)
  rw [if_pos hw]
  unfold Oper.wp
  rw [hx w]
  refine (hc w hS).mono fun e W' hh => ?_
  obtain ⟨rfl, hS'⟩ := hh
  exact hK _ _ hS' (fun hS'' => by rw [put_some k v _ hd]; exact h W' hS'')
end

theorem Boxed.eq {W : World} {g : Nat} {f : Fr} {v : Value} (h : Boxed W g f v) : W.heap[g]? = some (.cells (FC f v) 26 (0, 0)) := h
/-- Other data. -/
def Fr.with (f : Fr) (d : List Nat) : Fr := { f with data := d }
theorem Boxed.put19 {W : World} {g : Nat} {f : Fr} {v : Value} (h : Boxed W g f v) (d : List Nat) (v' : Value) : Boxed (W.setCell ⟨g, 19, none⟩ v') g (f.with d) v' :=
  heap_setCell_same W g 19 (FC f v) 26 v' h
theorem Boxed.other {W : World} {g k i : Nat} {f : Fr} {v v' : Value} (h : Boxed W g f v) (hk : g ≠ k) : Boxed (W.setCell ⟨k, i, none⟩ v') g f v :=
  (heap_setCell_other W ⟨k, i, none⟩ g v' hk).trans h
theorem Boxed.fr {W : World} {g : Nat} {f : Fr} {v : Value} (h : Boxed W g f v) (i : Nat) : W.frozen? ⟨g, i, none⟩ = false := frozen_of_row W g i _ _ h

end Go.Proofs.Ytbpkjljienadiaa
