/- A row of ints appended to one of the law's own, within a region that draws its order. -/
import Derived.Test.YtholemjbjmkpkaaTrPath
import Derived.Test.YtholemjbjmkpkaaBtHApp
namespace Go.Proofs.Ytholemjbjmkpkaa
open Go.RowKit Go.Joins Go.Deep

theorem wpAppL {o : Oper} {a : Act} {w : World} {K : Act → World → Prop} {Q : Exit → Act → World → Prop} (s x : Operand)
    (hop : o.op = .call { callee := .builtin .append, args := #[s, x], argTypes := #[40, 40] }) (B : Nat) (v u : Value) (L M : List Int) (hs : a.eval s = v) (hx : a.eval x = u)
    (hown : OwnR C1 3 1 B w v L) (hB : B ≤ w.heap.size) (harg : LArg w u M) (hl : L.length + M.length ≤ 10000) (hne : v ≠ .slice none 0 0)
    (h : ∀ v' w', OwnR C1 3 1 B w' v' (L ++ M) → Below B w w' → v' ≠ .slice none 0 0 → (∀ k, k < w.heap.size → some k ≠ v.ownBlock → w'.heap[k]? = w.heap[k]?) → K (a.put o.dst v') w') : o.wp Try.prog a w K Q := by
  obtain ⟨i0, hi, hz0, hz1, hz2⟩ := Go.info_parts Try.infoI
  have key : ∀ ad m c, u = .slice (some ad) m c → m = M.length → (∀ j e, (fl C1 M)[j]? = some e → w.cell? (ad.add j) = some e) → o.wp Try.prog a w K Q := by
    intro ad m c hu hm hc
    subst hm
    refine wp_append_own w s x 40 hop B 3 i0 _ 1 8 Try.underlying40 hi hz0 hz1 hz2 rfl (by decide) v L.length (fl C1 L) hs hown ad M.length c (fl C1 M) (hx.trans hu) (fl_len C1 1 C1_size M) hc
      (fun e he => by obtain ⟨j, hj⟩ := List.mem_iff_getElem?.1 he; obtain ⟨x, _, rfl⟩ := ints_at M j e hj; rfl) (by unfold maxLen; omega) (by omega) hB ?_
    intro v' w' h1 h2 h3
    exact h v' w' (by unfold OwnR; rw [fl_app, List.length_append]; exact h1) (grown_below hown h2 hB) (fun e => hne (h3.1 e).1) h2.block
  rcases harg.2 with ⟨rfl, p, c, rfl, hp⟩ | ⟨h0, b, o', c, rfl, hc, hr⟩
  · cases p with
    | some ad => exact key ad 0 c rfl rfl (fun j e he => by simp [fl] at he)
    | none =>
      obtain rfl := hp rfl
      have hrun := run_append_owned_none (P := Try.prog) (w := w) B 40 o.type 3 i0 1 Try.underlying40 hi v L.length (fl C1 L) hown
      unfold Oper.wp
      simp [execOp, hop, resolve, invoke, builtin, hs, hx, hrun, Result.andThen]
      exact h v w (by rw [List.append_nil]; exact hown) ⟨rfl, rfl, rfl, Nat.le_refl _, fun _ _ => rfl⟩ hne (fun _ _ _ => rfl)
  · refine key _ _ c rfl rfl (fun j e he => ?_)
    obtain ⟨y, hy, rfl⟩ := ints_at M j e he
    have hj : j < M.length := (List.getElem?_eq_some_iff.1 hy).1
    have := (hr h0).2 j hj
    rw [List.getD_eq_getElem?_getD, hy] at this
    rw [show (⟨b, o', none⟩ : Addr).add j = ⟨b, o' + j, none⟩ by unfold Addr.add; split <;> simp_all]
    exact this
section
variable {ops : Array Oper} {Q : Exit → Act → World → Prop} {S : World → Prop} {fuel : Nat} {listed : Array Bool} {a : Act} {w : World}
theorem hAppL {i k : Nat} {o : Oper} (hr : Region.ready .any ops listed = [i]) (ho : ops[i]? = some o) (hd : o.dst = some k) (hw : Region.wanted o (yielded ops a.tmps) = true) (s x : Operand)
    (hop : o.op = .call { callee := .builtin .append, args := #[s, x], argTypes := #[40, 40] }) (B : Nat) (v u : Value) (L M : List Int) (hs : a.eval s = v) (hx : a.eval x = u)
    (hown : OwnR C1 3 1 B w v L) (hB : B ≤ w.heap.size) (harg : LArg w u M) (hl : L.length + M.length ≤ 10000) (hne : v ≠ .slice none 0 0)
    (h : ∀ v' w', OwnR C1 3 1 B w' v' (L ++ M) → Below B w w' → v' ≠ .slice none 0 0 → (∀ k, k < w.heap.size → some k ≠ v.ownBlock → w'.heap[k]? = w.heap[k]?) → S w' ∧ wpAnyH Try.prog .any ops Q S fuel (listed.setIfInBounds i true) { a with tmps := a.tmps.setIfInBounds k v' } w') : wpAnyH Try.prog .any ops Q S (fuel + 1) listed a w := by
  refine wpAnyH_ready hr (by simp) (AllReadyH.cons ho (fun K hK => ?_) AllReadyH.nil)
  rw [if_pos hw]
  refine wpAppL s x hop B v u L M hs hx hown hB harg hl hne (fun v' w' h1 h2 h3 h4 => ?_)
  obtain ⟨hS, hk⟩ := h v' w' h1 h2 h3 h4
  exact hK _ _ hS (fun _ => by rw [put_some k v' _ hd]; exact hk)
/-- An append, or an operation that yields. -/
theorem hAppOr {i j k m : Nat} {o p : Oper} {u2 : Value} {w2 : World} (hr : Region.ready .any ops listed = [i, j]) (ho : ops[i]? = some o) (hp : ops[j]? = some p) (hd : o.dst = some k) (hd2 : p.dst = some m) (hw : Region.wanted o (yielded ops a.tmps) = true) (hw2 : Region.wanted p (yielded ops a.tmps) = true) (s x : Operand)
    (hop : o.op = .call { callee := .builtin .append, args := #[s, x], argTypes := #[40, 40] }) (B : Nat) (v u : Value) (L M : List Int) (hs : a.eval s = v) (hx : a.eval x = u)
    (hown : OwnR C1 3 1 B w v L) (hB : B ≤ w.heap.size) (harg : LArg w u M) (hl : L.length + M.length ≤ 10000) (hne : v ≠ .slice none 0 0)
    (hx2 : (execOp a.eval p).run Try.prog w = .ok (.value u2) w2) (hS2 : S w2)
    (h : ∀ v' w', OwnR C1 3 1 B w' v' (L ++ M) → Below B w w' → v' ≠ .slice none 0 0 → (∀ k, k < w.heap.size → some k ≠ v.ownBlock → w'.heap[k]? = w.heap[k]?) → S w' ∧ wpAnyH Try.prog .any ops Q S fuel (listed.setIfInBounds i true) { a with tmps := a.tmps.setIfInBounds k v' } w')
    (h2 : wpAnyH Try.prog .any ops Q S fuel (listed.setIfInBounds j true) { a with tmps := a.tmps.setIfInBounds m u2 } w2) : wpAnyH Try.prog .any ops Q S (fuel + 1) listed a w := by
  refine wpAnyH_ready hr (by simp) (AllReadyH.cons ho (fun K hK => ?_) (AllReadyH.cons hp (fun K hK => ?_) AllReadyH.nil))
  · rw [if_pos hw]
    refine wpAppL s x hop B v u L M hs hx hown hB harg hl hne (fun v' w' h1 h2 h3 h4 => ?_)
    obtain ⟨hS, hk⟩ := h v' w' h1 h2 h3 h4
    exact hK _ _ hS (fun _ => by rw [put_some k v' _ hd]; exact hk)
  · rw [if_pos hw2]
    unfold Oper.wp
    rw [hx2]
    exact hK _ _ hS2 (fun _ => by rw [put_some m u2 _ hd2]; exact h2)
theorem hTwoS {i j k m : Nat} {o p : Oper} {u v : Value} {w' w2 : World} (hr : Region.ready .any ops listed = [i, j]) (ho : ops[i]? = some o) (hp : ops[j]? = some p) (hd : o.dst = some k) (hd2 : p.dst = some m) (hw : Region.wanted o (yielded ops a.tmps) = true) (hw2 : Region.wanted p (yielded ops a.tmps) = true)
    (hx : (execOp a.eval o).run Try.prog w = .ok (.value v) w') (hx2 : (execOp a.eval p).run Try.prog w = .ok (.value u) w2) (hS : S w') (hS2 : S w2)
    (h : wpAnyH Try.prog .any ops Q S fuel (listed.setIfInBounds i true) { a with tmps := a.tmps.setIfInBounds k v } w') (h2 : wpAnyH Try.prog .any ops Q S fuel (listed.setIfInBounds j true) { a with tmps := a.tmps.setIfInBounds m u } w2) : wpAnyH Try.prog .any ops Q S (fuel + 1) listed a w := by
  refine wpAnyH_ready hr (by simp) (AllReadyH.cons ho (fun K hK => ?_) (AllReadyH.cons hp (fun K hK => ?_) AllReadyH.nil))
  · rw [if_pos hw]
    unfold Oper.wp
    rw [hx]
    exact hK _ _ hS (fun _ => by rw [put_some k v _ hd]; exact h)
  · rw [if_pos hw2]
    unfold Oper.wp
    rw [hx2]
    exact hK _ _ hS2 (fun _ => by rw [put_some m u _ hd2]; exact h2)
end
/-- One int in a block of its own. -/
theorem one_arg {V : World} {g : Nat} {id : Int} {fr : Nat × Nat} (h : V.heap[g]? = some (.cells #[.int .i64 id] 3 fr)) (hi : In64 id) : LArg V (.slice (some ⟨g, 0, none⟩) 1 1) [id] := by
  refine ⟨fun x hx => by simp at hx; subst hx; exact hi, .inr ⟨by simp, g, 0, 1, rfl, Nat.le_refl _, fun _ => ⟨lt_of_heap h, fun k hk => ?_⟩⟩⟩
  have e : k = 0 := by simp at hk; omega
  subst e
  exact cell_of_row _ _ _ _ _ _ h

end Go.Proofs.Ytholemjbjmkpkaa
