/- Paths: ints that lie in blocks of ints; slices.Index, Contains, Clone, Grow, Concat. -/
import Derived.Test.YtholemjbjmkpkaaBtRCh
import Derived.Lib.AppendZeros
import Derived.Lib.SliceRun
namespace Go.Proofs.Ytholemjbjmkpkaa
open Go.RowKit Go.Joins Go.Deep

/-- The value's elements are these ints, in a block of ints. -/
def PA (w : World) (u : Value) (xs : List Int) : Prop :=
  (xs = [] ∧ ∃ a c, u = .slice a 0 c ∧ (a = none → c = 0)) ∨
  (0 < xs.length ∧ ∃ q o c cs fr, u = .slice (some ⟨q, o, none⟩) xs.length c ∧ xs.length ≤ c ∧ w.heap[q]? = some (.cells cs 3 fr) ∧ ∀ j x, xs[j]? = some x → cs[o + j]? = some (.int .i64 x))
theorem PA.keep {w w' : World} {u : Value} {xs : List Int} (h : PA w u xs) (hk : ∀ (k : Nat) cs fr, w.heap[k]? = some (.cells cs 3 fr) → w'.heap[k]? = w.heap[k]?) : PA w' u xs := by
  rcases h with h | ⟨h0, q, o, c, cs, fr, e, hc, hg, hx⟩
  · exact .inl h
  · exact .inr ⟨h0, q, o, c, cs, fr, e, hc, (hk q cs fr hg).trans hg, hx⟩
theorem PA.below {w w' : World} {u : Value} {xs : List Int} (h : PA w u xs) (hb : Below w.heap.size w w') : PA w' u xs := h.keep fun k _ _ hk => hb.block k (lt_of_heap hk)
theorem PA.larg {w : World} {u : Value} {xs : List Int} (h : PA w u xs) (hx : ∀ x ∈ xs, In64 x) : LArg w u xs := by
  refine ⟨hx, ?_⟩
  rcases h with h | ⟨h0, q, o, c, cs, fr, e, hc, hg, hat⟩
  · exact .inl h
  · refine .inr ⟨h0, q, o, c, e, hc, fun _ => ⟨lt_of_heap hg, fun k hk => ?_⟩⟩
    rw [cell_of_row _ _ _ _ _ _ hg]
    refine hat k _ ?_
    rw [List.getD_eq_getElem?_getD, List.getElem?_eq_getElem hk]
    rfl
theorem PA.slice {w : World} {u : Value} {xs : List Int} (h : PA w u xs) : ∃ p c, u = .slice p xs.length c := by
  rcases h with ⟨rfl, p, c, rfl, _⟩ | ⟨_, q, o, c, cs, fr, rfl, _⟩
  · exact ⟨p, c, rfl⟩
  · exact ⟨_, c, rfl⟩
theorem PA.nil (w : World) : PA w (.slice none 0 0) [] := .inl ⟨rfl, none, 0, rfl, fun _ => rfl⟩
/-- Ints of the call's own. -/
theorem own_pa {B : Nat} {w : World} {v : Value} {xs : List Int} (h : OwnR C1 3 1 B w v xs) : PA w v xs := by
  rcases h.2 with ⟨rfl, hz⟩ | ⟨g, cap, cur, rfl, hb, hg, hn, hm, hs, ht⟩
  · exact .inl ⟨List.eq_nil_of_length_eq_zero hz, none, 0, rfl, fun _ => rfl⟩
  · rcases Nat.eq_zero_or_pos xs.length with h0 | h0
    · exact .inl ⟨List.eq_nil_of_length_eq_zero h0, some ⟨g, 0, none⟩, cap, by rw [h0], fun e => by cases e⟩
    · refine .inr ⟨h0, g, 0, cap, cur, (0, 0), rfl, hn, hg, fun j x hj => ?_⟩
      have hjl : j < xs.length := (List.getElem?_eq_some_iff.1 hj).1
      have h2 := fl_at C1 1 C1_size xs j 0 x hj (by decide)
      rw [← ht, List.getElem?_take, if_pos (by omega), Nat.mul_one, Nat.add_zero] at h2
      rw [Nat.zero_add]
      simpa [C1] using h2
def ints (xs : List Int) : List Value := fl C1 xs
theorem ints_at (xs : List Int) (j : Nat) (e : Value) (h : (fl C1 xs)[j]? = some e) : ∃ x, xs[j]? = some x ∧ e = .int .i64 x := by
  have hj : j < xs.length := by
    have := (List.getElem?_eq_some_iff.1 h).1
    rw [fl_len C1 1 C1_size, Nat.mul_one] at this
    exact this
  have h2 := fl_at C1 1 C1_size xs j 0 _ (List.getElem?_eq_getElem hj) (by decide)
  rw [Nat.mul_one, Nat.add_zero, h] at h2
  exact ⟨xs[j], List.getElem?_eq_getElem hj, by simpa [C1] using h2⟩
/-- Ints appended to a row of the call's own. -/
theorem wpList_appL {ops : Array Oper} {rest : List Oper} {o : Oper} {a : Act} {w : World} {Q : Exit → Act → World → Prop} (hgd : o.guard = none) (s x : Operand)
    (ho : o.op = .call { callee := .builtin .append, args := #[s, x], argTypes := #[40, 40] }) (B : Nat) (v u : Value) (L M : List Int) (hs : a.eval s = v) (hx : a.eval x = u)
    (hown : OwnR C1 3 1 B w v L) (hB : B ≤ w.heap.size) (harg : LArg w u M) (hl : L.length + M.length ≤ 10000) (hne : v ≠ .slice none 0 0)
    (h : ∀ v' w', OwnR C1 3 1 B w' v' (L ++ M) → Below B w w' → v' ≠ .slice none 0 0 → wpList Try.prog ops Q rest (a.put o.dst v') w') : wpList Try.prog ops Q (o :: rest) a w := by
  obtain ⟨i0, hi, hz0, hz1, hz2⟩ := Go.info_parts Try.infoI
  have key : ∀ ad m c, u = .slice (some ad) m c → m = M.length → (∀ j e, (fl C1 M)[j]? = some e → w.cell? (ad.add j) = some e) → wpList Try.prog ops Q (o :: rest) a w := by
    intro ad m c hu hm hc
    subst hm
    refine wpList_append_own _ hgd s x 40 ho B 3 i0 _ 1 8 Try.underlying40 hi hz0 hz1 hz2 rfl (by decide) v L.length (fl C1 L) hs hown ad M.length c (fl C1 M) (hx.trans hu) (fl_len C1 1 C1_size M) hc
      (fun e he => by obtain ⟨j, hj⟩ := List.mem_iff_getElem?.1 he; obtain ⟨x, _, rfl⟩ := ints_at M j e hj; rfl) (by unfold maxLen; omega) (by omega) hB ?_
    intro v' w' h1 h2 h3
    refine h v' w' ?_ (grown_below hown h2 hB) (fun e => hne (h3.1 e).1)
    unfold OwnR
    rw [fl_app, List.length_append]
    exact h1
  rcases harg.2 with ⟨rfl, p, c, rfl, hp⟩ | ⟨h0, b, o', c, rfl, hc, hr⟩
  · cases p with
    | some ad => exact key ad 0 c rfl rfl (fun j e he => by simp [fl] at he)
    | none =>
      obtain rfl := hp rfl
      refine wpList_append_own_none hgd s x 40 ho B 3 i0 1 Try.underlying40 hi v L.length (fl C1 L) hs hown hx ?_
      exact h v w (by rw [List.append_nil]; exact hown) ⟨rfl, rfl, rfl, Nat.le_refl _, fun _ _ => rfl⟩ hne
  · refine key _ _ c rfl rfl (fun j e he => ?_)
    obtain ⟨y, hy, rfl⟩ := ints_at M j e he
    have hj : j < M.length := (List.getElem?_eq_some_iff.1 hy).1
    have := (hr h0).2 j hj
    rw [List.getD_eq_getElem?_getD, hy] at this
    rw [show (⟨b, o', none⟩ : Addr).add j = ⟨b, o' + j, none⟩ by unfold Addr.add; split <;> simp_all]
    exact this
theorem q_nilI (w : World) (a : Option Addr) (n c n' c' : Nat) : (binOp .eql 40 (.slice a n c) (.slice none n' c')).run Try.prog w = .ok (.bool a.isNone) w :=
  Lib.run_eql_slice_nil w _ _ a n c n' c' Try.underlying40
/-- slices.Clone. -/
theorem clone_any {u : Value} {xs : List Int} {w : World} (h : LArg w u xs) (hl : xs.length ≤ 1000) :
    Calls Try.prog 39 #[u] w fun e w' => ∃ v, e = .returned v ∧ PA w' v xs ∧ Below w.heap.size w w' := by
  have HA := Lib.hid h
  have q := q_nilI
  obtain ⟨p, c, hv⟩ := h.slice
  subst hv
  cases p with
  | none =>
    have h0 : xs = [] := by
      rcases HA.out.2 with ⟨rfl, _⟩ | ⟨_, b, o, c', e, _⟩
      · rfl
      · cases e
    have hc : c = 0 := by
      rcases HA.out.2 with ⟨_, a, c', e, hp⟩ | ⟨_, b, o, c', e, _⟩
      · injection e with e1 e2 e3; rw [e3]; exact hp e1.symm
      · cases e
    subst hc h0
    clear h hl HA
    go_enter Try.func39, Try.ntmps39
    go_wp2_with fail
    go_ret
    exact ⟨_, rfl, PA.nil w, bRef w⟩
  | some ad =>
    have HO : Hid (OwnR C1 3 1 w.heap.size (w.alloc (.cells #[] 3)) (.slice (some ⟨w.heap.size, 0, none⟩) 0 0) []) := Lib.hid (OwnR.start (Nat.le_refl _))
    have HN := Lib.hid hl
    clear h hl
    go_enter Try.func39, Try.ntmps39
    go_wp2_with ((with_reducible refine at_append ?_); refine wpList_appL rfl _ _ rfl w.heap.size _ _ [] xs rfl rfl HO.out (by simp) (HA.out.below (bAl (bRef w) _)) (by have := HN.out; simp; omega) (fun e => by have e' : (Value.slice (some ⟨w.heap.size, 0, none⟩) 0 0) = .slice none 0 0 := e; cases e') ?_; intro v' w' h1 h2 h3; have H1 := Lib.hid h1; have H2 := Lib.hid h2; clear h1 h2 h3)
    go_ret
    exact ⟨_, rfl, own_pa (by have := H1.out; rw [List.nil_append] at this; exact this), (bAl (bRef w) _).trans H2.out⟩
def idxL (x : Int) : List Int → Int
  | [] => -1
  | y :: l => if x = y then 0 else (if idxL x l < 0 then -1 else idxL x l + 1)
theorem idxL_has (x : Int) : ∀ l : List Int, (0 ≤ idxL x l) ↔ x ∈ l
  | [] => by simp [idxL]
  | y :: l => by
    have ih := idxL_has x l
    unfold idxL
    by_cases h : x = y
    · rw [if_pos h]; simp [h]
    · rw [if_neg h]
      split
      · constructor
        · intro h1; omega
        · intro h1
          rcases List.mem_cons.1 h1 with h2 | h2
          · exact absurd h2 h
          · have := ih.2 h2; omega
      · constructor
        · intro _; exact List.mem_cons_of_mem _ (ih.1 (by omega))
        · intro _; omega
def IxRel (x : Int) (xs : List Int) (iv : Value) : Prop := ∃ k : Nat, k ≤ xs.length ∧ iv = .int .i64 (k : Int) ∧ ∀ j, j < k → xs.getD j 0 ≠ x
/-- slices.Index: whether it is there. -/
def IxP (x : Int) (xs : List Int) (w : World) (e : Ending) (w' : World) : Prop := w = w' ∧ ∃ i : Int, e = .returned (.int .i64 i) ∧ (0 ≤ i ↔ x ∈ xs)
theorem index_any {u : Value} {xs : List Int} {w : World} (x : Int) (h : LArg w u xs) (hl : xs.length ≤ 140737488355328) : Calls Try.prog 46 #[u, .int .i64 x] w (IxP x xs w) := by
  obtain ⟨p, c, rfl⟩ := h.slice
  obtain ⟨n, hn⟩ : ∃ n, n = xs.length := ⟨_, rfl⟩
  rw [← hn] at hl h ⊢
  have Hn := Lib.hid hn
  have HA := Lib.hid h
  clear hn h
  go_enter Try.func46, Try.ntmps46
  go_wp2_with fail
  go_loop [8] (fun iv => IxRel x xs iv) (fun iv => n - (intOf iv).toNat)
  case atStart => exact ⟨0, by omega, rfl, fun j hj => by omega⟩
  case round =>
    obtain ⟨k, hk, rfl, hall⟩ := hrel
    have Hall := Lib.hid hall
    rw [← Hn.out] at hk
    clear hall
    rcases Nat.lt_or_ge k n with g | g
    · have hd : decide ((k : Int) < (n : Int)) = true := decide_eq_true (by omega)
      have hin : k < xs.length := by rw [← Hn.out]; exact g
      rcases HA.out.2 with ⟨e0, _⟩ | ⟨h0, b, o, c', e1, hc, hr⟩
      · exfalso; rw [e0] at hin; simp at hin
      injection e1 with e1 e2 e3
      subst e1
      have hcell := (hr h0).2 k hin
      have hir : IntKind.i64.wrap (k : Int) = (k : Int) := by rw [IntKind.wrap_i64]; omega
      obtain ⟨y, hy⟩ : ∃ y, y = xs.getD k 0 := ⟨_, rfl⟩
      rw [← hy] at hcell
      have HY := Lib.hid hy
      clear hy e2 e3 hc hr h0
      by_cases hxy : x = y
      · have hb : (x == y) = true := by rw [beq_iff_eq]; exact hxy
        have HM : Hid (x ∈ xs) := Lib.hid (by rw [hxy, HY.out, List.getD_eq_getElem?_getD, List.getElem?_eq_getElem hin]; exact List.getElem_mem hin)
        clear hxy hin
        go_wp2_with fail
        go_ret
        exact ⟨rfl, _, rfl, ⟨fun _ => HM.out, fun _ => by omega⟩⟩
      · have hb : (x == y) = false := by rw [beq_eq_false_iff_ne]; exact hxy
        have HX := Lib.hid hxy
        clear hxy hin
        go_wp2_with fail
        go_round
        case rel => exact ⟨k + 1, by rw [← Hn.out]; omega, by go_num, fun j hj => by
          rcases Nat.lt_or_ge j k with h | h
          · exact Hall.out j h
          · obtain rfl : j = k := by omega
            rw [← HY.out]; exact fun e => HX.out e.symm⟩
        case measure => simp [intOf]; omega
    · obtain rfl : k = n := by omega
      have hd : decide ((k : Int) < (k : Int)) = false := decide_eq_false (by omega)
      go_wp2_with fail
      go_ret
      refine ⟨rfl, _, rfl, ⟨fun h => absurd h (by omega), fun h => ?_⟩⟩
      obtain ⟨j, hj, e⟩ := List.mem_iff_getElem.1 h
      refine absurd ?_ (Hall.out j (by rw [Hn.out]; exact hj))
      rw [List.getD_eq_getElem?_getD, List.getElem?_eq_getElem hj, ← e]
      rfl
/-- slices.Contains. -/
theorem contains_any {u : Value} {xs : List Int} {w : World} (x : Int) (h : LArg w u xs) (hl : xs.length ≤ 140737488355328) (r : Bool) (hr : decide (x ∈ xs) = r) : Calls Try.prog 38 #[u, .int .i64 x] w fun e w' => e = .returned (.bool r) ∧ w = w' := by
  have HI := Lib.hid (index_any x h hl)
  obtain ⟨p, c, rfl⟩ := h.slice
  have HR := Lib.hid hr
  unfold IxP at HI
  clear h hl hr
  go_enter Try.func38, Try.ntmps38
  cases r with
  | true =>
    go_wp2_with (go_at_call 46; (with_reducible refine HI.out.mono ?_); rintro e w1 ⟨rfl, i, rfl, hi⟩; have hp : 0 ≤ i := hi.2 (of_decide_eq_true HR.out); clear hi)
    go_ret
    exact ⟨rfl, rfl⟩
  | false =>
    go_wp2_with (go_at_call 46; (with_reducible refine HI.out.mono ?_); rintro e w1 ⟨rfl, i, rfl, hi⟩; have hq : decide (0 ≤ i) = false := decide_eq_false (fun k => of_decide_eq_false HR.out (hi.1 k)); clear hi)
    go_ret
    exact ⟨rfl, rfl⟩

/-- Append of so many zeros to none: a row of its own. -/
theorem wpList_grow {ops : Array Oper} {rest : List Oper} {o : Oper} {a : Act} {w : World} {Q : Exit → Act → World → Prop} (hgd : o.guard = none) (s x : Operand)
    (ho : o.op = .call { callee := .builtin .append, args := #[s, x], argTypes := #[40, 3] }) (n : Nat) (hs : a.eval s = .slice none 0 0) (hx : a.eval x = .int .i64 (n : Int)) (h0 : 0 < n) (hn : n ≤ 10000)
    (h : ∀ c cs, n ≤ c → c ≤ maxLen → cs.size = c → wpList Try.prog ops Q rest (a.put o.dst (.slice (some ⟨w.heap.size, 0, none⟩) n c)) (w.drew.alloc (.cells cs 3))) : wpList Try.prog ops Q (o :: rest) a w := by
  obtain ⟨i0, hi, hz0, hz1, hz2⟩ := Go.info_parts Try.infoI
  have hge := grownCap_ge w n 0 3
  have hle := grownCap_le_maxLen w n 0 3 (by unfold maxLen; omega)
  exact Lib.wpList_append_run w hgd s x 40 3 ho _ _ hs hx _ _ (Lib.run_append_nil_zeros (P := Try.prog) w 40 3 o.type 3 i0 (.int .i64 0) .i64 .i64 Try.underlying40 Try.underlying3 hi hz0 n h0 (by omega) (by omega) (by rw [hz2]; omega)) (h _ _ hge hle (by simp [Builtin.zeroCells, Value.cells]; omega))
/-- slices.Grow of none. -/
theorem grow_any (n : Nat) (h0 : 0 < n) (hn : n ≤ 10000) (w : World) : Calls Try.prog 45 #[.slice none 0 0, .int .i64 (n : Int)] w fun e w' => ∃ c, e = .returned (.slice (some ⟨w.heap.size, 0, none⟩) 0 c) ∧ OwnR C1 3 1 w.heap.size w' (.slice (some ⟨w.heap.size, 0, none⟩) 0 c) [] ∧ Below w.heap.size w w' := by
  have hn0 : ¬ (n : Int) < 0 := by omega
  have hnp : (0 : Int) < (n : Int) := by omega
  have H0 := Lib.hid h0
  go_enter Try.func45, Try.ntmps45
  go_wp2_with ((with_reducible refine at_append ?_); refine wpList_grow rfl _ _ rfl n rfl rfl H0.out hn ?_; intro c cs hc hm hcs; have HO : Hid (OwnR C1 3 1 w.heap.size (w.drew.alloc (.cells cs 3)) (.slice (some ⟨w.heap.size, 0, none⟩) 0 c) []) := Lib.hid ⟨rfl, .inr ⟨w.heap.size, c, cs, rfl, Nat.le_refl _, heap_alloc_new w.drew _, Nat.zero_le _, hm, by omega, by simp [fl]⟩⟩)
  go_ret
  exact ⟨c, rfl, HO.out, ((bRef w).alloc (Nat.le_refl _) _).trans ⟨rfl, rfl, rfl, Nat.le_refl _, fun _ _ => rfl⟩⟩
/-- Two slices of ints in a row. -/
structure TwoS (w : World) (h : Nat) (u1 u2 : Value) (xs ys : List Int) : Prop where
  box : w.heap[h]? = some (.cells #[u1, u2] 40 (0, 0))
  a1 : LArg w u1 xs
  a2 : LArg w u2 ys
theorem TwoS.below {w w' : World} {h : Nat} {u1 u2 : Value} {xs ys : List Int} (k : TwoS w h u1 u2 xs ys) (hb : Below w.heap.size w w') : TwoS w' h u1 u2 xs ys := ⟨(hb.block _ (lt_of_heap k.box)).trans k.box, k.a1.below hb, k.a2.below hb⟩
def CcRel (n m : Nat) (sv iv : Value) : Prop := (iv = .int .i64 0 ∧ sv = .int .i64 0) ∨ (iv = .int .i64 1 ∧ sv = .int .i64 (n : Int)) ∨ (iv = .int .i64 2 ∧ sv = .int .i64 ((n + m : Nat) : Int))
def CaRel (w : World) (xs ys : List Int) (sv iv : Value) (wr : World) : Prop := Below w.heap.size w wr ∧ sv ≠ .slice none 0 0 ∧ ((iv = .int .i64 0 ∧ OwnR C1 3 1 w.heap.size wr sv []) ∨ (iv = .int .i64 1 ∧ OwnR C1 3 1 w.heap.size wr sv xs) ∨ (iv = .int .i64 2 ∧ OwnR C1 3 1 w.heap.size wr sv (xs ++ ys)))
set_option maxHeartbeats 1000000 in
theorem concat_any {u1 u2 : Value} {xs ys : List Int} {w : World} {h : Nat} (hT : TwoS w h u1 u2 xs ys) (hx : xs.length ≤ 1000) (hy : ys.length ≤ 1000) (h0 : 0 < ys.length) :
    Calls Try.prog 37 #[.slice (some ⟨h, 0, none⟩) 2 2] w fun e w' => ∃ v, e = .returned v ∧ OwnR C1 3 1 w.heap.size w' v (xs ++ ys) ∧ Below w.heap.size w w' := by
  obtain ⟨p1, c1', rfl⟩ := hT.a1.slice
  obtain ⟨p2, c2', rfl⟩ := hT.a2.slice
  obtain ⟨n, hn⟩ : ∃ n, n = xs.length := ⟨_, rfl⟩
  obtain ⟨m, hm⟩ : ∃ m, m = ys.length := ⟨_, rfl⟩
  rw [← hn] at hx
  rw [← hm] at hy h0
  have e0 : w.cell? ⟨h, 0, none⟩ = some (.slice p1 n c1') := by rw [hn]; exact cell_of_row _ _ 0 _ _ _ hT.box
  have e1 : w.cell? ⟨h, 1, none⟩ = some (.slice p2 m c2') := by rw [hm]; exact cell_of_row _ _ 1 _ _ _ hT.box
  have HT : Hid (TwoS w h (.slice p1 n c1') (.slice p2 m c2') xs ys) := Lib.hid (by rw [hn, hm]; exact hT)
  have Hn := Lib.hid hn
  have Hm := Lib.hid hm
  have HX := Lib.hid hx
  have HY := Lib.hid hy
  have HG0 := fun W => grow_any (n + m) (by omega) (by omega) W
  simp only [Int.natCast_add] at HG0
  have HG := Lib.hid HG0
  clear HG0
  have hs1 : ¬ ((n : Int) < 0) := by omega
  clear hT hn hm h0
  go_enter Try.func37, Try.ntmps37
  go_wp2_with fail
  go_loop [3, 11] (fun sv iv => CcRel n m sv iv) (fun _ iv => 2 - (intOf iv).toNat)
  case atStart => exact .inl ⟨rfl, rfl⟩
  case round =>
    rcases hrel with ⟨rfl, rfl⟩ | ⟨rfl, rfl⟩ | ⟨rfl, rfl⟩
    · go_wp2_with fail
      go_round
      case rel => exact .inr (.inl ⟨rfl, rfl⟩)
      case measure => simp [intOf]
    · have hw : wrap64 ((n : Int) + (m : Int)) = ((n + m : Nat) : Int) := by unfold wrap64; omega
      have hs : ¬ (((n + m : Nat) : Int) < 0) := by omega
      go_wp2_with fail
      go_round
      case rel => exact .inr (.inr ⟨rfl, by go_num⟩)
      case measure => simp [intOf]
    · go_wp2_with (go_at_call 45; (with_reducible refine (HG.out _).mono ?_); rintro e w1 ⟨c, rfl, ho, hb⟩; have HO := Lib.hid ho; have HB := Lib.hid hb; clear ho hb)
      go_loopw [6, 27] (fun sv iv wr => CaRel w xs ys sv iv wr) (fun _ iv _ => 2 - (intOf iv).toNat)
      case atStart => exact ⟨HB.out, (fun e => by cases e), .inl ⟨rfl, HO.out⟩⟩
      case round =>
        clear HO HB HG
        obtain ⟨hb, hne, hcase⟩ := hrel
        have HB := Lib.hid hb
        have HNe := Lib.hid hne
        have ht := HT.out.below hb
        have e0 : wr.cell? ⟨h, 0, none⟩ = some (.slice p1 n c1') := cell_of_row _ _ 0 _ _ _ ht.box
        have e1 : wr.cell? ⟨h, 1, none⟩ = some (.slice p2 m c2') := cell_of_row _ _ 1 _ _ _ ht.box
        clear ht hb hne
        rcases hcase with ⟨rfl, ho⟩ | ⟨rfl, ho⟩ | ⟨rfl, ho⟩
        · have HO := Lib.hid ho
          obtain ⟨pp, cc, rfl⟩ := ho.slice
          clear ho
          go_wp2_with ((with_reducible refine at_append ?_); refine wpList_appL rfl _ _ rfl w.heap.size _ _ [] xs rfl rfl HO.out HB.out.size (HT.out.below HB.out).a1 (by simp; rw [← Hn.out]; exact Nat.le_trans HX.out (by decide)) HNe.out ?_; intro v' w' h1 h2 h3; have H1 := Lib.hid h1; have H2 := Lib.hid h2; have H3 := Lib.hid h3; clear h1 h2 h3)
          go_roundw
          case rel => exact ⟨HB.out.trans H2.out, H3.out, .inr (.inl ⟨rfl, by have := H1.out; rw [List.nil_append] at this; exact this⟩)⟩
          case measure => simp [intOf]
        · have HO := Lib.hid ho
          obtain ⟨pp, cc, rfl⟩ := ho.slice
          rw [← Hn.out] at HO HNe
          rw [← Hn.out]
          clear ho
          go_wp2_with ((with_reducible refine at_append ?_); refine wpList_appL rfl _ _ rfl w.heap.size _ _ xs ys rfl rfl HO.out HB.out.size (HT.out.below HB.out).a2 (by rw [← Hn.out, ← Hm.out]; have := HX.out; have := HY.out; omega) HNe.out ?_; intro v' w' h1 h2 h3; have H1 := Lib.hid h1; have H2 := Lib.hid h2; have H3 := Lib.hid h3; clear h1 h2 h3)
          go_roundw
          case rel => exact ⟨HB.out.trans H2.out, H3.out, .inr (.inr ⟨rfl, H1.out⟩)⟩
          case measure => simp [intOf]
        · have HO := Lib.hid ho
          obtain ⟨pp, cc, rfl⟩ := ho.slice
          clear ho
          go_wp2_with fail
          go_ret
          exact ⟨_, rfl, HO.out, HB.out⟩

end Go.Proofs.Ytholemjbjmkpkaa
