/- A list's own slots: slices.Clone, own. -/
import Derived.Test.YtllmfkodgalklaaPoRow
import Derived.Laws.AppendOwnNone
import Derived.Lib.SliceRun
namespace Go.Proofs.Ytllmfkodgalklaa
open Go.RowKit Go.Joins

theorem Try.infoGS : (Try.prog.info? 64).map (fun i => (i.zero, i.size, i.bytes)) = some (some (.agg #[.int .i64 0, .int .i64 0]), 2, 16) := by kernel_rfl
theorem tv_one (ts : List (Int × Int)) (k : Nat) : ∀ u ∈ tv ts k, u.oneCell' = true := by
  intro u hu
  unfold tv at hu
  obtain ⟨i, _, hi⟩ := List.mem_flatMap.1 hu
  simp at hi
  rcases hi with rfl | rfl <;> rfl
/-- The copy: its row, above what was. -/
def Mine (w W : World) (v : Value) (n : Nat) : Prop := 0 < n → ∃ g cap cur, v = .slice (some ⟨g, 0, none⟩) n cap ∧ n ≤ cap ∧ w.heap.size ≤ g ∧ W.heap[g]? = some (.cells cur 64 (0, 0)) ∧ cur.size = cap * 2
theorem wpList_mine {ops : Array Oper} {rest : List Oper} {o : Oper} {a : Act} {Q : Exit → Act → World → Prop} (hgd : o.guard = none) (s x : Operand)
    (ho : o.op = .call { callee := .builtin .append, args := #[s, x], argTypes := #[22, 22] })
    (w : World) (u : Value) (ts : List (Int × Int)) (hs : a.eval s = .slice (some ⟨w.heap.size, 0, none⟩) 0 0) (hx : a.eval x = u) (harg : TArg w u ts) (hl : ts.length ≤ 1000)
    (h : ∀ v' w', Mine w w' v' ts.length → TArg w' v' ts → Below w.heap.size w w' → wpList Try.prog ops Q rest (a.put o.dst v') w') : wpList Try.prog ops Q (o :: rest) a (w.alloc (.cells #[] 64)) := by
  obtain ⟨i0, hi, hz0, hz1, hz2⟩ := info_parts Try.infoGS
  have hb0 : Below w.heap.size w (w.alloc (.cells #[] 64)) := bAl (bRef w) _
  have hown : (w.alloc (.cells #[] 64)).ownsRow w.heap.size 64 2 (.slice (some ⟨w.heap.size, 0, none⟩) 0 0) 0 [] := World.ownsRow_made w #[] 0 (Nat.le_refl _) (Nat.zero_le _) rfl
  have fin : ∀ v' w', w'.ownsRow w.heap.size 64 2 v' ts.length (tv ts ts.length) → v' ≠ .slice none 0 0 → Below w.heap.size w w' → wpList Try.prog ops Q rest (a.put o.dst v') w' := by
    intro v' w' h1 hne hb
    rcases h1.2 with ⟨e, _⟩ | ⟨g, cap, cur, rfl, hbg, hg, hn, _, hcs, htk⟩
    · exact absurd e hne
    refine h _ _ (fun _ => ⟨g, cap, cur, rfl, hn, hbg, hg, hcs⟩) ⟨harg.1, ?_⟩ hb
    rcases Nat.eq_zero_or_pos ts.length with h0 | h0
    · exact .inl ⟨List.eq_nil_of_length_eq_zero h0, some ⟨g, 0, none⟩, cap, by rw [h0], fun e => by cases e⟩
    · refine .inr ⟨h0, g, 0, cap, rfl, hn, (row_lt h1 rfl).2, fun k hk => ?_⟩
      have ht := tv_at ts ts.length k hk
      rw [Nat.zero_add, h1.cellAt (k * 2) (by omega), h1.cellAt (k * 2 + 1) (by omega)]
      exact ht
  have key : ∀ ad m c, u = .slice (some ad) m c → m = ts.length → (∀ j e, (tv ts ts.length)[j]? = some e → (w.alloc (.cells #[] 64)).cell? (ad.add j) = some e) → wpList Try.prog ops Q (o :: rest) a (w.alloc (.cells #[] 64)) := by
    intro ad m c hu hm hc
    subst hm
    refine wpList_append_own _ hgd s x 22 ho w.heap.size 64 i0 _ 2 16 Try.underlying22 hi hz0 hz1 hz2 rfl (by decide) _ 0 [] hs hown ad ts.length c (tv ts ts.length) (hx.trans hu) (tv_len _ _) hc (tv_one _ _) (by unfold maxLen; omega) (by omega) hb0.size ?_
    intro v' w' h1 h2 h3
    rw [Nat.zero_add, List.nil_append] at h1
    exact fin v' w' h1 (fun e => by have := (h3.1 e).1; cases this) (hb0.grown h2 hb0.size (fun k hk => (hown.lt k hk).1))
  rcases harg.2 with ⟨rfl, p, c, rfl, hp⟩ | ⟨h0, b, o', c, rfl, hc, hr⟩
  · cases p with
    | some ad => exact key ad 0 c rfl rfl (fun j e he => by simp [tv] at he)
    | none =>
      obtain rfl := hp rfl
      refine wpList_append_own_none hgd s x 22 ho w.heap.size 64 i0 2 Try.underlying22 hi _ 0 [] hs hown hx ?_
      exact fin _ _ hown (by simp) hb0
  · refine key _ _ c rfl rfl (fun j e he => ?_)
    have hj : j < ts.length * 2 := by
      have := (List.getElem?_eq_some_iff.1 he).1
      rwa [tv_len] at this
    have ha := tv_at ts ts.length (j / 2) (by omega)
    have hcl := hr.2 (j / 2) (by omega)
    have hadd : (⟨b, o', none⟩ : Addr).add j = ⟨b, o' + j, none⟩ := by unfold Addr.add; split <;> simp_all
    rw [hadd]
    rcases Nat.mod_two_eq_zero_or_one j with hm | hm
    · rw [show j = j / 2 * 2 by omega] at he ⊢
      rw [ha.1] at he
      exact (hb0.cell hr.1).trans (hcl.1.trans he)
    · rw [show j = j / 2 * 2 + 1 by omega] at he ⊢
      rw [ha.2] at he
      exact (hb0.cell hr.1).trans (hcl.2.trans he)
theorem q_nilS (w : World) (a : Option Addr) (n c n' c' : Nat) : (binOp .eql 22 (.slice a n c) (.slice none n' c')).run Try.prog w = .ok (.bool a.isNone) w :=
  Lib.run_eql_slice_nil w _ _ a n c n' c' Try.underlying22
theorem clone_any {v : Value} {ts : List (Int × Int)} {w : World} (h : TArg w v ts) (hl : ts.length ≤ 1000) :
    Calls Try.prog 28 #[v] w fun e w' => ∃ p c, e = .returned (.slice p ts.length c) ∧ Mine w w' (.slice p ts.length c) ts.length ∧ TArg w' (.slice p ts.length c) ts ∧ Below w.heap.size w w' := by
  have HA := Lib.hid h
  have q := q_nilS
  obtain ⟨p, c, hv⟩ := h.slice
  subst hv
  cases p with
  | none =>
    have h0 : ts.length = 0 := by
      rcases HA.out.2 with ⟨rfl, _⟩ | ⟨_, b, o, c', e, _⟩
      · rfl
      · cases e
    have hc : c = 0 := by
      rcases HA.out.2 with ⟨_, a, c', e, hp⟩ | ⟨_, b, o, c', e, _⟩
      · injection e with e1 e2 e3; rw [e3]; exact hp e1.symm
      · cases e
    subst hc
    have HT := Lib.hid HA.out
    rw [h0] at HT ⊢
    clear h hl HA
    go_enter Try.func28, Try.ntmps28
    go_wp2_with fail
    go_ret
    exact ⟨none, 0, rfl, fun h => absurd h (by omega), HT.out, bRef w⟩
  | some ad =>
    have HL := Lib.hid hl
    generalize hn : ts.length = n at *
    have HN := Lib.hid hn
    clear h hl hn
    go_enter Try.func28, Try.ntmps28
    go_wp2_with (at_builtin; refine wpList_mine rfl _ _ rfl w (.slice (some ad) n c) ts rfl rfl HA.out (by rw [HN.out]; exact HL.out) ?_; intro v1 w1 hm ht hb; have HM := Lib.hid hm; have HT := Lib.hid ht; have HB := Lib.hid hb; obtain ⟨p1, c1, hv1⟩ := ht.slice; rw [HN.out] at hv1; subst hv1; clear hm ht hb)
    go_ret
    exact ⟨_, _, rfl, by have h := HM.out; rw [HN.out] at h; exact h, HT.out, HB.out⟩
theorem cell_block {w w' : World} {b o : Nat} (h : w'.heap[b]? = w.heap[b]?) : w'.cell? ⟨b, o, none⟩ = w.cell? ⟨b, o, none⟩ := by
  unfold World.cell?; simp only [h]
theorem TArg.keep {w w' : World} {v : Value} {ts : List (Int × Int)} (h : TArg w v ts) (hs : w.heap.size ≤ w'.heap.size) (hk : 0 < ts.length → ∀ b, v.ownBlock = some b → w'.heap[b]? = w.heap[b]?) : TArg w' v ts := by
  obtain ⟨h1, h2⟩ := h
  refine ⟨h1, ?_⟩
  rcases h2 with h2 | ⟨h0, b, o, c, rfl, hc, hr⟩
  · exact .inl h2
  · exact .inr ⟨h0, b, o, c, rfl, hc, Nat.lt_of_lt_of_le hr.1 hs, fun k hk' => ⟨(cell_block (hk h0 b rfl)).trans (hr.2 k hk').1, (cell_block (hk h0 b rfl)).trans (hr.2 k hk').2⟩⟩
theorem Mine.own {w W : World} {v : Value} {n b : Nat} (h : Mine w W v n) (h0 : 0 < n) (e : v.ownBlock = some b) : w.heap.size ≤ b := by
  obtain ⟨g, cap, cur, rfl, _, hg, _⟩ := h h0
  simp [Value.ownBlock] at e
  omega
theorem bodyOwn {R : Ending → World → Prop} {a : Act} {w : World} {g : Nat} {c0 c1 c2 : Value} {fr : Nat × Nat} (hp : a.tmps.getD 2 undef = .pointer (some ⟨g, 0, none⟩)) (hg : w.heap[g]? = some (.cells #[c0, c1, c2] 24 fr)) (hd : a.defers = [])
    (hR : R (.returned (.agg #[c0, c1, c2])) w) : bodyPost Try.prog Try.f52 R .ret a w := by
  refine bodyPost_ret (v := .agg #[c0, c1, c2]) ?_ hd hR
  have h := run_loadVar_row w g 24 24 #[c0, c1, c2] fr _ hg Try.underlying24 rfl (by kernel_rfl)
  have hp' : a.tmps[2]?.getD undef = .pointer (some ⟨g, 0, none⟩) := by simpa using hp
  simp [results, Try.results52, hp', asAddr, h]
theorem own_any {b c : Int} {v : Value} {ts : List (Int × Int)} {w : World} (h : TArg w v ts) (hl : ts.length ≤ 1000) :
    Calls Try.prog 52 #[LV b c v] w fun e w' => ∃ p cp, e = .returned (LV b c (.slice p ts.length cp)) ∧ Mine w w' (.slice p ts.length cp) ts.length ∧ TArg w' (.slice p ts.length cp) ts ∧ Below w.heap.size w w' := by
  have HB0 := Lib.hid (bAl (bAl (bRef w) (.cells #[.int .i64 b, .int .i64 c, v] 24)) (.cells #[.int .i64 0, .int .i64 0, .slice none 0 0] 24))
  have HA := Lib.hid (h.below HB0.out)
  have HC := Lib.hid (fun W (k : TArg W v ts) => clone_any k hl)
  obtain ⟨p0, c0, rfl⟩ := h.slice
  have h1 := heap_alloc_one w (.cells #[.int .i64 b, .int .i64 c, .slice p0 ts.length c0] 24)
  have h2 := heap_alloc_one (w.alloc (.cells #[.int .i64 b, .int .i64 c, .slice p0 ts.length c0] 24)) (.cells #[.int .i64 0, .int .i64 0, .slice none 0 0] 24)
  rw [show (w.alloc (.cells #[.int .i64 b, .int .i64 c, .slice p0 ts.length c0] 24)).heap.size = w.heap.size + 1 by simp] at h2
  have H1 := Lib.hid ((heap_alloc_old _ (.cells #[.int .i64 0, .int .i64 0, .slice none 0 0] 24) (r := w.heap.size) (by simp)).trans h1)
  have H2 := Lib.hid h2
  obtain ⟨n, hn⟩ : ∃ n, ts.length = n := ⟨_, rfl⟩
  have HN := Lib.hid hn
  rw [hn] at HB0 HA HC H1 H2 ⊢
  clear h hl h1 h2 hn
  go_enter Try.func52, Try.ntmps52
  go_wp2_with (go_at_call 28; (with_reducible refine (HC.out _ HA.out).mono ?_); rintro e w1 ⟨p1, c1, rfl, hm, ht, hb⟩; have HM := Lib.hid hm; have HT := Lib.hid ht; have HB := Lib.hid hb; have K1 := Lib.hid ((hb.block _ (lt_of_heap H1.out)).trans H1.out); have K2 := Lib.hid ((hb.block _ (lt_of_heap H2.out)).trans H2.out); obtain ⟨a0, a1, a2, af⟩ : _ ∧ _ ∧ _ ∧ _ := ⟨cell_of_row _ _ 0 _ _ _ K1.out, cell_of_row _ _ 1 _ _ _ K1.out, cell_of_row _ _ 2 _ _ _ K1.out, frozen_of_row w1 _ 2 _ _ K1.out⟩; obtain ⟨e0, e1, e2, f0, f1, f2⟩ : _ ∧ _ ∧ _ ∧ _ ∧ _ ∧ _ := ⟨cell_of_row _ _ 0 _ _ _ K2.out, cell_of_row _ _ 1 _ _ _ K2.out, cell_of_row _ _ 2 _ _ _ K2.out, frozen_of_row w1 _ 0 _ _ K2.out, frozen_of_row w1 _ 1 _ _ K2.out, frozen_of_row w1 _ 2 _ _ K2.out⟩; clear hm ht hb)
  refine bodyOwn rfl (heap_setCell_same _ _ 2 _ _ _ (heap_setCell_same _ _ 1 _ _ _ (heap_setCell_same _ _ 0 _ _ _ ((heap_setCell_other _ _ _ _ (by simp)).trans K2.out)))) rfl ⟨_, _, rfl, ?_, ?_, ?_⟩
  · intro h0
    obtain ⟨g, cap, cur, e, hn, hg, hh, hs⟩ := HM.out h0
    refine ⟨g, cap, cur, e, hn, Nat.le_trans HB0.out.size hg, ?_, hs⟩
    have hg' : w.heap.size + 2 ≤ g := by simpa using hg
    rw [heap_setCell_other _ _ _ _ (by simp; omega), heap_setCell_other _ _ _ _ (by simp; omega), heap_setCell_other _ _ _ _ (by simp; omega), heap_setCell_other _ _ _ _ (by simp; omega)]
    exact hh
  · refine HT.out.keep (by simp) fun h0 b e => ?_
    have hb := HM.out.own (by rw [← HN.out]; exact h0) e
    have hb' : w.heap.size + 2 ≤ b := by simpa using hb
    rw [heap_setCell_other _ _ _ _ (by simp; omega), heap_setCell_other _ _ _ _ (by simp; omega), heap_setCell_other _ _ _ _ (by simp; omega), heap_setCell_other _ _ _ _ (by simp; omega)]
  · refine (bTr HB0.out HB.out).trans ⟨rfl, rfl, rfl, by simp, fun k hk => ?_⟩
    rw [heap_setCell_other _ _ _ _ (by simp; omega), heap_setCell_other _ _ _ _ (by simp; omega), heap_setCell_other _ _ _ _ (by simp; omega), heap_setCell_other _ _ _ _ (by simp; omega)]

end Go.Proofs.Ytllmfkodgalklaa
