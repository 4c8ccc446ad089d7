/- Regions that draw their order, taken operation by operation. -/
import Derived.Test.YtkbodcgamfkegaaFdNew
import Derived.OrdersHeld
import Derived.Deep.RegionHeld
namespace Go.Proofs.Ytkbodcgamfkegaa
open Go.RowKit Go.Joins

section
variable {ops : Array Oper} {Q : Exit → Act → World → Prop} {S : World → Prop} {fuel : Nat} {listed : Array Bool} {a : Act} {w : World}
theorem put_some (k : Nat) (v : Value) (d : Option Tmp) (hd : d = some k) : a.put d v = { a with tmps := a.tmps.setIfInBounds k v } := by subst hd; rfl
/-- An operation that yields in whatever world meets S is taken first. -/
theorem hTake {i k : Nat} {o : Oper} {v : Value} (hi : ops[i]? = some o) (hd : o.dst = some k) (hs : Region.noSelect ops = true) (hf : Region.free .any ops listed i = true) (hr : (Region.ready .any ops listed).contains i = true)
    (hQ : ∀ c a w, Q (.panic c) (a.put o.dst v) w → Q (.panic c) a w) (hy : YieldsIf Try.prog ops S o v a) (hS : S w)
    (h : wpAnyH Try.prog .any ops Q S fuel (listed.setIfInBounds i true) { a with tmps := a.tmps.setIfInBounds k v } w) : wpAnyH Try.prog .any ops Q S (fuel + 1) listed a w :=
  wpAnyH_take hi hs hf hr hQ hy hS (by rw [put_some k v _ hd]; exact h)
theorem yieldsIf_val {o : Oper} {v : Value} (hw : Region.wanted o (yielded ops a.tmps) = true) (h : ∀ W, (execOp a.eval o).run Try.prog W = .ok (.value v) W) : YieldsIf Try.prog ops S o v a := .inl ⟨hw, fun W _ => h W⟩
theorem yieldsIf_skip {o : Oper} (hw : Region.wanted o (yielded ops a.tmps) = false) : YieldsIf Try.prog ops S o undef a := .inr ⟨hw, rfl⟩

/-- A call that keeps S, where nothing else may come up. -/
theorem hCall {i k : Nat} {o : Oper} (hr : Region.ready .any ops listed = [i]) (ho : ops[i]? = some o) (hd : o.dst = some k) (hw : Region.wanted o (yielded ops a.tmps) = true) (f : FuncId) (args : Array Value)
    (hx : ∀ W, (execOp a.eval o).run Try.prog W = .ok (.enter f args) W) (v : Value) (hc : ∀ W, S W → Calls Try.prog f args W fun e W' => e = .returned v ∧ S W') (hS : S w)
    (h : ∀ W', S W' → wpAnyH Try.prog .any ops Q S fuel (listed.setIfInBounds i true) { a with tmps := a.tmps.setIfInBounds k v } W') : wpAnyH Try.prog .any ops Q S (fuel + 1) listed a w := by
  refine wpAnyH_ready hr (by simp) (AllReadyH.cons ho (fun K hK => ?_) AllReadyH.nil)
  rw [if_pos hw]
  unfold Oper.wp
  rw [hx w]
  refine (hc w hS).mono fun e W' hh => ?_
  obtain ⟨rfl, hS'⟩ := hh
  exact hK _ _ hS' (fun hS'' => by rw [put_some k v _ hd]; exact h W' hS'')
end

end Go.Proofs.Ytkbodcgamfkegaa
