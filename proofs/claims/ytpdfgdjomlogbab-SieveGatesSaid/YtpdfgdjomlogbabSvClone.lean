/- slices.Clone of a list's slots. -/
import Derived.Test.YtpdfgdjomlogbabSvGtState
import Derived.Test.YtpdfgdjomlogbabSvNew
import Derived.Laws.AppendOwnNone
import Derived.Lib.SliceRun
namespace Go.Proofs.Ytpdfgdjomlogbab
open Go.RowKit Go.Joins

def tv (ts : List (Int × Int)) (k : Nat) : List Value := (List.range k).flatMap fun i => [.int .i64 (tA ts i), .int .i64 (tR ts i)]
theorem tv_succ (ts : List (Int × Int)) (k : Nat) : tv ts (k + 1) = tv ts k ++ [.int .i64 (tA ts k), .int .i64 (tR ts k)] := by
  unfold tv; rw [List.range_succ, List.flatMap_append]; simp
theorem tv_len (ts : List (Int × Int)) (k : Nat) : (tv ts k).length = k * 2 := by
  induction k with
  | zero => rfl
  | succ k ih => rw [tv_succ, List.length_append, ih]; simp; omega
theorem tv_at (ts : List (Int × Int)) (n k : Nat) (h : k < n) : (tv ts n)[k * 2]? = some (.int .i64 (tA ts k)) ∧ (tv ts n)[k * 2 + 1]? = some (.int .i64 (tR ts k)) := by
  induction n with
  | zero => omega
  | succ n ih =>
    rw [tv_succ]
    rcases Nat.lt_or_ge k n with hk | hk
    · have := ih hk
      rw [List.getElem?_append_left (by rw [tv_len]; omega), List.getElem?_append_left (by rw [tv_len]; omega)]
      exact this
    · obtain rfl : k = n := by omega
      rw [List.getElem?_append_right (by rw [tv_len]; omega), List.getElem?_append_right (by rw [tv_len]; omega), tv_len]
      simp
theorem Try.infoGS : (Try.prog.info? 62).map (fun i => (i.zero, i.size, i.bytes)) = some (some (.agg #[.int .i64 0, .int .i64 0]), 2, 16) := by kernel_rfl
theorem tv_one (ts : List (Int × Int)) (k : Nat) : ∀ u ∈ tv ts k, u.oneCell' = true := by
  intro u hu
  unfold tv at hu
  obtain ⟨i, _, hi⟩ := List.mem_flatMap.1 hu
  simp at hi
  rcases hi with rfl | rfl <;> rfl
/-- The copy: its row, above what was. -/
def Mine (w W : World) (v : Value) (n : Nat) : Prop := 0 < n → ∃ g cap cur, v = .slice (some ⟨g, 0, none⟩) n cap ∧ n ≤ cap ∧ w.heap.size ≤ g ∧ W.heap[g]? = some (.cells cur 62 (0, 0)) ∧ cur.size = cap * 2
theorem wpList_mine {ops : Array Oper} {rest : List Oper} {o : Oper} {a : Act} {Q : Exit → Act → World → Prop} (hgd : o.guard = none) (s x : Operand)
    (ho : o.op = .call { callee := .builtin .append, args := #[s, x], argTypes := #[44, 44] })
    (w : World) (u : Value) (ts : List (Int × Int)) (hs : a.eval s = .slice (some ⟨w.heap.size, 0, none⟩) 0 0) (hx : a.eval x = u) (harg : TArg w u ts) (hl : ts.length ≤ 1000)
    (h : ∀ v' w', Mine w w' v' ts.length → TArg w' v' ts → Below w.heap.size w w' → wpList Try.prog ops Q rest (a.put o.dst v') w') : wpList Try.prog ops Q (o :: rest) a (w.alloc (.cells #[] 62)) := by
  obtain ⟨i0, hi, hz0, hz1, hz2⟩ := info_parts Try.infoGS
  have hb0 : Below w.heap.size w (w.alloc (.cells #[] 62)) := bAl (bRef w) _
  have hown : (w.alloc (.cells #[] 62)).ownsRow w.heap.size 62 2 (.slice (some ⟨w.heap.size, 0, none⟩) 0 0) 0 [] := World.ownsRow_made w #[] 0 (Nat.le_refl _) (Nat.zero_le _) rfl
  have fin : ∀ v' w', w'.ownsRow w.heap.size 62 2 v' ts.length (tv ts ts.length) → v' ≠ .slice none 0 0 → Below w.heap.size w w' → wpList Try.prog ops Q rest (a.put o.dst v') w' := by
    intro v' w' h1 hne hb
    rcases h1.2 with ⟨e, _⟩ | ⟨g, cap, cur, rfl, hbg, hg, hn, _, hcs, htk⟩
    · exact absurd e hne
    refine h _ _ (fun _ => ⟨g, cap, cur, rfl, hn, hbg, hg, hcs⟩) ⟨harg.1, ?_⟩ hb
    rcases Nat.eq_zero_or_pos ts.length with h0 | h0
    · exact .inl ⟨List.eq_nil_of_length_eq_zero h0, some ⟨g, 0, none⟩, cap, by rw [h0], fun e => by cases e⟩
    · refine .inr ⟨h0, g, 0, cap, rfl, hn, (row_lt h1 rfl).2, fun k hk => ?_⟩
      have ht := tv_at ts ts.length k hk
      rw [Nat.zero_add, h1.cellAt (k * 2) (by omega), h1.cellAt (k * 2 + 1) (by omega)]
      exact ht
  have key : ∀ ad m c, u = .slice (some ad) m c → m = ts.length → (∀ j e, (tv ts ts.length)[j]? = some e → (w.alloc (.cells #[] 62)).cell? (ad.add j) = some e) → wpList Try.prog ops Q (o :: rest) a (w.alloc (.cells #[] 62)) := by
    intro ad m c hu hm hc
    subst hm
    refine wpList_append_own _ hgd s x 44 ho w.heap.size 62 i0 _ 2 16 Try.underlying44 hi hz0 hz1 hz2 rfl (by decide) _ 0 [] hs hown ad ts.length c (tv ts ts.length) (hx.trans hu) (tv_len _ _) hc (tv_one _ _) (by unfold maxLen; omega) (by omega) hb0.size ?_
    intro v' w' h1 h2 h3
    rw [Nat.zero_add, List.nil_append] at h1
    exact fin v' w' h1 (fun e => by have := (h3.1 e).1; cases this) (hb0.grown h2 hb0.size (fun k hk => (hown.lt k hk).1))
  rcases harg.2 with ⟨rfl, p, c, rfl, hp⟩ | ⟨h0, b, o', c, rfl, hc, hr⟩
  · cases p with
    | some ad => exact key ad 0 c rfl rfl (fun j e he => by simp [tv] at he)
    | none =>
      obtain rfl := hp rfl
      refine wpList_append_own_none hgd s x 44 ho w.heap.size 62 i0 2 Try.underlying44 hi _ 0 [] hs hown hx ?_
      exact fin _ _ hown (by simp) hb0
  · refine key _ _ c rfl rfl (fun j e he => ?_)
    have hj : j < ts.length * 2 := by
      have := (List.getElem?_eq_some_iff.1 he).1
      rwa [tv_len] at this
    have ha := tv_at ts ts.length (j / 2) (by omega)
    have hcl := hr.2 (j / 2) (by omega)
    have hadd : (⟨b, o', none⟩ : Addr).add j = ⟨b, o' + j, none⟩ := by unfold Addr.add; split <;> simp_all
    rw [hadd]
    rcases Nat.mod_two_eq_zero_or_one j with hm | hm
    · rw [show j = j / 2 * 2 by omega] at he ⊢
      rw [ha.1] at he
      exact (hb0.cell hr.1).trans (hcl.1.trans he)
    · rw [show j = j / 2 * 2 + 1 by omega] at he ⊢
      rw [ha.2] at he
      exact (hb0.cell hr.1).trans (hcl.2.trans he)
theorem q_nilS (w : World) (a : Option Addr) (n c n' c' : Nat) : (binOp .eql 44 (.slice a n c) (.slice none n' c')).run Try.prog w = .ok (.bool a.isNone) w :=
  Lib.run_eql_slice_nil w _ _ a n c n' c' Try.underlying44
theorem clone_any {v : Value} {ts : List (Int × Int)} {w : World} (h : TArg w v ts) (hl : ts.length ≤ 1000) :
    Calls Try.prog 16 #[v] w fun e w' => ∃ p c, e = .returned (.slice p ts.length c) ∧ Mine w w' (.slice p ts.length c) ts.length ∧ TArg w' (.slice p ts.length c) ts ∧ Below w.heap.size w w' := by
  have HA := Lib.hid h
  have q := q_nilS
  obtain ⟨p, c, hv⟩ := h.slice
  subst hv
  cases p with
  | none =>
    have h0 : ts.length = 0 := by
      rcases HA.out.2 with ⟨rfl, _⟩ | ⟨_, b, o, c', e, _⟩
      · rfl
      · cases e
    have hc : c = 0 := by
      rcases HA.out.2 with ⟨_, a, c', e, hp⟩ | ⟨_, b, o, c', e, _⟩
      · injection e with e1 e2 e3; rw [e3]; exact hp e1.symm
      · cases e
    subst hc
    have HT := Lib.hid HA.out
    rw [h0] at HT ⊢
    clear h hl HA
    go_enter Try.func16, Try.ntmps16
    go_wp2_with fail
    go_ret
    exact ⟨none, 0, rfl, fun h => absurd h (by omega), HT.out, bRef w⟩
  | some ad =>
    have HL := Lib.hid hl
    generalize hn : ts.length = n at *
    have HN := Lib.hid hn
    clear h hl hn
    go_enter Try.func16, Try.ntmps16
    go_wp2_with (at_builtin; refine wpList_mine rfl _ _ rfl w (.slice (some ad) n c) ts rfl rfl HA.out (by rw [HN.out]; exact HL.out) ?_; intro v1 w1 hm ht hb; have HM := Lib.hid hm; have HT := Lib.hid ht; have HB := Lib.hid hb; obtain ⟨p1, c1, hv1⟩ := ht.slice; rw [HN.out] at hv1; subst hv1; clear hm ht hb)
    go_ret
    exact ⟨_, _, rfl, by have h := HM.out; rw [HN.out] at h; exact h, HT.out, HB.out⟩
theorem cell_block {w w' : World} {b o : Nat} (h : w'.heap[b]? = w.heap[b]?) : w'.cell? ⟨b, o, none⟩ = w.cell? ⟨b, o, none⟩ := by
  unfold World.cell?; simp only [h]
theorem TArg.keep {w w' : World} {v : Value} {ts : List (Int × Int)} (h : TArg w v ts) (hs : w.heap.size ≤ w'.heap.size) (hk : 0 < ts.length → ∀ b, v.ownBlock = some b → w'.heap[b]? = w.heap[b]?) : TArg w' v ts := by
  obtain ⟨h1, h2⟩ := h
  refine ⟨h1, ?_⟩
  rcases h2 with h2 | ⟨h0, b, o, c, rfl, hc, hr⟩
  · exact .inl h2
  · exact .inr ⟨h0, b, o, c, rfl, hc, Nat.lt_of_lt_of_le hr.1 hs, fun k hk' => ⟨(cell_block (hk h0 b rfl)).trans (hr.2 k hk').1, (cell_block (hk h0 b rfl)).trans (hr.2 k hk').2⟩⟩
theorem Mine.own {w W : World} {v : Value} {n b : Nat} (h : Mine w W v n) (h0 : 0 < n) (e : v.ownBlock = some b) : w.heap.size ≤ b := by
  obtain ⟨g, cap, cur, rfl, _, hg, _⟩ := h h0
  simp [Value.ownBlock] at e
  omega
theorem and_one (q : Int) : bits .and .i64 q 1 = q % 2 := by
  have e : (BitVec.ofInt 64 q &&& BitVec.ofInt 64 1).toNat = (q % 18446744073709551616).toNat % 2 := by
    rw [BitVec.toNat_and, show (BitVec.ofInt 64 1).toNat = 2 ^ 1 - 1 from by decide, Nat.and_two_pow_sub_one_eq_mod, BitVec.toNat_ofInt]
    rfl
  show IntKind.i64.wrap ((BitVec.ofInt 64 q &&& BitVec.ofInt 64 1).toNat : Nat) = _
  rw [e, IntKind.wrap_i64]
  omega

end Go.Proofs.Ytpdfgdjomlogbab
