/- A row of the law's own grows within a region that draws its order. Rows of eight ints held against each other. -/
import Derived.Test.YtholemjbjmkpkaaBtRCh
namespace Go.Proofs.Ytholemjbjmkpkaa
open Go.RowKit Go.Joins Go.Deep

theorem hApp1 {α : Type} (C : α → Array Value) (m by_ : Nat) (e t : TypeId) {z : Value} (hinf : (Try.prog.info? e).map (fun i => (i.zero, i.size, i.bytes)) = some (some z, m, by_)) (ht : Try.prog.underlying t = some (.slice e)) (hzs : z.cells.size = m) (hm : 0 < m) (hby : by_ ≤ 100000) (hC : ∀ x, (C x).size = m) (hone : ∀ x, (C x).all (·.oneCell') = true)
    {ops : Array Oper} {Q : Exit → Act → World → Prop} {S : World → Prop} {fuel : Nat} {listed : Array Bool} {a : Act} {w : World} {i k : Nat} {o : Oper} (hr : Region.ready .any ops listed = [i]) (ho : ops[i]? = some o) (hd : o.dst = some k) (hw : Region.wanted o (yielded ops a.tmps) = true) (s x : Operand)
    (hop : o.op = .call { callee := .builtin .append, args := #[s, x], argTypes := #[t, t] }) (B : Nat) (v : Value) (L : List α) (y : α) (g : Nat) (hs : a.eval s = v) (hx : a.eval x = .slice (some ⟨g, 0, none⟩) 1 1)
    (hown : OwnR C e m B w v L) (hB : B ≤ w.heap.size) (hg : w.rangeAt g 0 (C y).toList) (hl : L.length ≤ 10000)
    (h : ∀ v' w', OwnR C e m B w' v' (L ++ [y]) → w.grownBy w' v.ownBlock → S w' ∧ wpAnyH Try.prog .any ops Q S fuel (listed.setIfInBounds i true) { a with tmps := a.tmps.setIfInBounds k v' } w') : wpAnyH Try.prog .any ops Q S (fuel + 1) listed a w := by
  refine wpAnyH_ready hr (by simp) (AllReadyH.cons ho (fun K hK => ?_) AllReadyH.nil)
  rw [if_pos hw]
  obtain ⟨i0, hi, hz0, hz1, hz2⟩ := Go.info_parts hinf
  have hb : (L.length + 1) * by_ ≤ 140737488355328 := Nat.le_trans (Nat.mul_le_mul (show L.length + 1 ≤ 10001 by omega) hby) (by decide)
  refine wp_append_own w s x t hop B e i0 z m by_ ht hi hz0 hz1 hz2 hzs hm v L.length (fl C L) hs hown ⟨g, 0, none⟩ 1 1 (C y).toList hx (by rw [Array.length_toList, hC, Nat.one_mul]) (fun j u hj => by rw [show (⟨g, 0, none⟩ : Addr).add j = ⟨g, 0 + j, none⟩ by unfold Addr.add; split <;> simp_all]; exact hg j u hj)
    (fun u hu => by have := hone y; rw [Array.all_eq_true'] at this; exact this u (by simpa using hu)) (by unfold maxLen; omega) hb hB ?_
  intro v' w' h1 h2 h3
  obtain ⟨hS, hk⟩ := h v' w' (by unfold OwnR; rw [fl_app, fl_one, List.length_append]; exact h1) h2
  exact hK _ _ hS (fun _ => by rw [put_some k v' _ hd]; exact hk)
set_option maxRecDepth 100000 in
set_option maxHeartbeats 4000000 in
theorem eqRs (a0 a1 a2 a3 a4 a5 a6 a7 : Int) (w : World) : (Op.equalIn 10000 30 (.agg #[.int .i64 a0, .int .i64 a1, .int .i64 a2, .int .i64 a3, .int .i64 a4, .int .i64 a5, .int .i64 a6, .int .i64 a7]) (.agg #[.int .i64 a0, .int .i64 a1, .int .i64 a2, .int .i64 a3, .int .i64 a4, .int .i64 a5, .int .i64 a6, .int .i64 a7])).run Try.prog w = .ok true w := by
  have uI := Try.underlying3
  have aI := Try.isAgg3
  have zI := Try.sizeOf3
  rw [show (10000 : Nat) = 9999 + 1 from rfl, Op.equalIn]
  simp only [Sem.run_bind, run_underlying Try.underlying30, Result.andThen_ok]
  simp only [Std.Legacy.Range.forIn_eq_forIn_range', Std.Legacy.Range.size, Nat.sub_zero, Nat.add_sub_cancel, Nat.div_one, List.range'_succ, List.range'_zero, List.forIn_cons, List.forIn_nil]
  go_simp
theorem run_neRs (a0 a1 a2 a3 a4 a5 a6 a7 : Int) (w : World) : (binOp .neq 30 (.agg #[.int .i64 a0, .int .i64 a1, .int .i64 a2, .int .i64 a3, .int .i64 a4, .int .i64 a5, .int .i64 a6, .int .i64 a7]) (.agg #[.int .i64 a0, .int .i64 a1, .int .i64 a2, .int .i64 a3, .int .i64 a4, .int .i64 a5, .int .i64 a6, .int .i64 a7])).run Try.prog w = .ok (.bool false) w := by
  rw [run_neq_struct, eqRs a0 a1 a2 a3 a4 a5 a6 a7 w]
  simp [Result.andThen]
theorem Try.infoK : (Try.prog.info? 39).map (fun i => (i.zero, i.size, i.bytes)) = some (some (.agg (HC ⟨false, false, ⟨⟨0, 0, 0, 0⟩, 0, 0, 0, 0⟩⟩)), 10, 72) := by kernel_rfl
/-- The cells of a vector within what a port has heard. -/
theorem htail (up ok : Bool) (v : Vc) : ∀ j x, (VC v).toList[j]? = some x → (HC ⟨up, ok, v⟩)[2 + j]? = some x := by
  intro j x h
  have hl : j < 8 := by have := (List.getElem?_eq_some_iff.1 h).1; simpa [VC] using this
  rcases (show j = 0 ∨ j = 1 ∨ j = 2 ∨ j = 3 ∨ j = 4 ∨ j = 5 ∨ j = 6 ∨ j = 7 by omega) with rfl | rfl | rfl | rfl | rfl | rfl | rfl | rfl <;> exact h

end Go.Proofs.Ytholemjbjmkpkaa
