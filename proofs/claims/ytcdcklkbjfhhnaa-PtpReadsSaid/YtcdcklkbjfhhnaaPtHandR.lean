/- Regions by hand, with what a call leaves. Out of XBtHand. -/
import Derived.Test.YtcdcklkbjfhhnaaPtRef10
import Derived.Deep.RegionHeld3
namespace Go.Proofs.Ytcdcklkbjfhhnaa
open Go.RowKit Go.Joins Go.Deep

section
variable {ops : Array Oper} {Q : Exit → Act → World → Prop} {S : World → Prop} {fuel : Nat} {listed : Array Bool} {a : Act} {w : World}
theorem put_someH {a : Act} (k : Nat) (v : Value) (d : Option Tmp) (hd : d = some k) : a.put d v = { a with tmps := a.tmps.setIfInBounds k v } := by subst hd; rfl
/-- An operation that yields in whatever world meets S is taken first. -/
theorem hTakeS {i k : Nat} {o : Oper} {v : Value} (hi : ops[i]? = some o) (hd : o.dst = some k) (hs : Region.noSelect ops = true) (hf : Region.free .any ops listed i = true) (hr : (Region.ready .any ops listed).contains i = true)
    (hQ : ∀ c a w, Q (.panic c) (a.put o.dst v) w → Q (.panic c) a w) (hy : YieldsIf Try.prog ops S o v a) (hS : S w)
    (h : wpAnyH Try.prog .any ops Q S fuel (listed.setIfInBounds i true) { a with tmps := a.tmps.setIfInBounds k v } w) : wpAnyH Try.prog .any ops Q S (fuel + 1) listed a w :=
  wpAnyH_take hi hs hf hr hQ hy hS (by rw [put_someH k v _ hd]; exact h)
theorem hOneS {i k : Nat} {o : Oper} {v : Value} {w' : World} (hr : Region.ready .any ops listed = [i]) (ho : ops[i]? = some o) (hd : o.dst = some k) (hw : Region.wanted o (yielded ops a.tmps) = true) (hx : (execOp a.eval o).run Try.prog w = .ok (.value v) w') (hS : S w')
    (h : wpAnyH Try.prog .any ops Q S fuel (listed.setIfInBounds i true) { a with tmps := a.tmps.setIfInBounds k v } w') : wpAnyH Try.prog .any ops Q S (fuel + 1) listed a w := by
  refine wpAnyH_ready hr (by simp) (AllReadyH.cons ho (fun K hK => ?_) AllReadyH.nil)
  rw [if_pos hw]
  unfold Oper.wp
  rw [hx]
  exact hK _ _ hS (fun _ => by rw [put_someH k v _ hd]; exact h)
theorem hOneNS {i : Nat} {o : Oper} {w' : World} (hr : Region.ready .any ops listed = [i]) (ho : ops[i]? = some o) (hd : o.dst = none) (hw : Region.wanted o (yielded ops a.tmps) = true) (hx : (execOp a.eval o).run Try.prog w = .ok .skip w') (hS : S w')
    (h : wpAnyH Try.prog .any ops Q S fuel (listed.setIfInBounds i true) a w') : wpAnyH Try.prog .any ops Q S (fuel + 1) listed a w := by
  refine wpAnyH_ready hr (by simp) (AllReadyH.cons ho (fun K hK => ?_) AllReadyH.nil)
  rw [if_pos hw]
  unfold Oper.wp
  rw [hx]
  exact hK _ _ hS (fun _ => by rw [hd]; exact h)
/-- A call, where nothing else may come up. -/
theorem hCallR {i k : Nat} {o : Oper} (hr : Region.ready .any ops listed = [i]) (ho : ops[i]? = some o) (hd : o.dst = some k) (hw : Region.wanted o (yielded ops a.tmps) = true) (f : FuncId) (args : Array Value)
    (hx : (execOp a.eval o).run Try.prog w = .ok (.enter f args) w) {R : Ending → World → Prop} (hc : Calls Try.prog f args w R)
    (h : ∀ e W', R e W' → ∃ v, e = .returned v ∧ S W' ∧ wpAnyH Try.prog .any ops Q S fuel (listed.setIfInBounds i true) { a with tmps := a.tmps.setIfInBounds k v } W') : wpAnyH Try.prog .any ops Q S (fuel + 1) listed a w := by
  refine wpAnyH_ready hr (by simp) (AllReadyH.cons ho (fun K hK => ?_) AllReadyH.nil)
  rw [if_pos hw]
  unfold Oper.wp
  rw [hx]
  refine hc.mono fun e W' hh => ?_
  obtain ⟨v, rfl, hS', hk⟩ := h e W' hh
  exact hK _ _ hS' (fun _ => by rw [put_someH k v _ hd]; exact hk)
/-- A call, or an operation that yields. -/
theorem hCallOr {i j k m : Nat} {o p : Oper} {u : Value} {w2 : World} (hr : Region.ready .any ops listed = [i, j]) (ho : ops[i]? = some o) (hp : ops[j]? = some p) (hd : o.dst = some k) (hd2 : p.dst = some m) (hw : Region.wanted o (yielded ops a.tmps) = true) (hw2 : Region.wanted p (yielded ops a.tmps) = true) (f : FuncId) (args : Array Value)
    (hx : (execOp a.eval o).run Try.prog w = .ok (.enter f args) w) {R : Ending → World → Prop} (hc : Calls Try.prog f args w R)
    (hx2 : (execOp a.eval p).run Try.prog w = .ok (.value u) w2) (hS2 : S w2)
    (h : ∀ e W', R e W' → ∃ v, e = .returned v ∧ S W' ∧ wpAnyH Try.prog .any ops Q S fuel (listed.setIfInBounds i true) { a with tmps := a.tmps.setIfInBounds k v } W')
    (h2 : wpAnyH Try.prog .any ops Q S fuel (listed.setIfInBounds j true) { a with tmps := a.tmps.setIfInBounds m u } w2) : wpAnyH Try.prog .any ops Q S (fuel + 1) listed a w := by
  refine wpAnyH_ready hr (by simp) (AllReadyH.cons ho (fun K hK => ?_) (AllReadyH.cons hp (fun K hK => ?_) AllReadyH.nil))
  · rw [if_pos hw]
    unfold Oper.wp
    rw [hx]
    refine hc.mono fun e W' hh => ?_
    obtain ⟨v, rfl, hS', hk⟩ := h e W' hh
    exact hK _ _ hS' (fun _ => by rw [put_someH k v _ hd]; exact hk)
  · rw [if_pos hw2]
    unfold Oper.wp
    rw [hx2]
    exact hK _ _ hS2 (fun _ => by rw [put_someH m u _ hd2]; exact h2)
end


end Go.Proofs.Ytcdcklkbjfhhnaa
