/- Package merge: New. -/
import Derived.Test.YtnkblihdgfhcdaaMgNew
import Derived.OwnWalk
namespace Go.Proofs.Ytnkblihdgfhcdaa
open Go.RowKit Go.Joins

theorem Try.infoP : (Try.prog.info? 26).map (fun i => (i.zero, i.size, i.bytes)) = some (some (.pointer none), 1, 8) := by kernel_rfl
def pv (bs : Nat → Nat) (k : Nat) : List Value := (List.range k).map (fun i => .pointer (some ⟨bs i, 0, none⟩))
theorem pv_len (bs : Nat → Nat) (k : Nat) : (pv bs k).length = k := by simp [pv]
theorem pv_at (bs : Nat → Nat) {k i : Nat} (h : i < k) : (pv bs k)[i]? = some (.pointer (some ⟨bs i, 0, none⟩)) := by simp [pv, h]
theorem pv_snoc (bs : Nat → Nat) (k b : Nat) : pv (upd bs k b) (k + 1) = pv bs k ++ [.pointer (some ⟨b, 0, none⟩)] := by
  unfold pv
  rw [List.range_succ, List.map_append, List.map_singleton, upd_same]
  congr 1
  refine List.map_congr_left fun i hi => ?_
  rw [upd_other _ _ (by have := List.mem_range.1 hi; omega)]
/-- A Merge while it is made. -/
structure MgP (w0 w : World) (b ba : Nat) (bs : Nat → Nat) (vb vr : Value) (k : Nat) (every limit now : Int) (qo qa : SQ) : Prop where
  box : w.heap[b]? = some (.cells #[.int .i64 every, .int .i64 limit, vb, .pointer (some ⟨ba, 0, none⟩), .int .i64 now, .int .i64 0, .int .i64 0] 83 (0, 0))
  row : w.ownsRow w0.heap.size 26 1 vr k (pv bs k)
  ones : ∀ i, i < k → Sq w (bs i) qo
  all : Sq w ba qa
  inj : ∀ i j, i < k → j < k → bs i = bs j → i = j
  nall : ∀ i, i < k → bs i ≠ ba
  lb : w0.heap.size ≤ b
  la : w0.heap.size ≤ ba
  ls : ∀ i, i < k → w0.heap.size ≤ bs i
  bel : Below w0.heap.size w0 w
section
variable {w0 w w' : World} {b ba k : Nat} {bs : Nat → Nat} {vb vr : Value} {every limit now : Int} {qo qa : SQ}
theorem MgP.below (h : MgP w0 w b ba bs vb vr k every limit now qo qa) (hb : Below w.heap.size w w') : MgP w0 w' b ba bs vb vr k every limit now qo qa := by
  obtain ⟨h1, h2, h3, h4, h5, h6, h7, h8, h9, h10⟩ := h
  refine ⟨(hb.block _ (lt_of_heap h1)).trans h1, ⟨h2.1, ?_⟩, fun i hi => (h3 i hi).below hb, h4.below hb, h5, h6, h7, h8, h9, h10.trans (hb.mono h10.size)⟩
  rcases h2.2 with ⟨rfl, hz⟩ | ⟨g, cap, cur, rfl, a1, hg, a3⟩
  · exact .inl ⟨rfl, hz⟩
  · exact .inr ⟨g, cap, cur, rfl, a1, (hb.block _ (lt_of_heap hg)).trans hg, a3⟩
theorem MgP.alloc (h : MgP w0 w b ba bs vb vr k every limit now qo qa) (o : Obj) : MgP w0 (w.alloc o) b ba bs vb vr k every limit now qo qa := h.below (bAl (bRef w) o)
theorem own_ne {base n : Nat} {xs : List Value} {v : Value} {q : Nat} {cs : Array Value} {t : TypeId} {fr : Nat × Nat} (h : w.ownsRow base 26 1 v n xs) (hq : w.heap[q]? = some (.cells cs t fr)) (ht : t ≠ 26) : some q ≠ v.ownBlock := by
  rcases h.2 with ⟨rfl, hz⟩ | ⟨g, cap, cur, rfl, a1, hg, a3⟩
  · intro e; cases e
  · intro e
    injection e with e
    subst e
    rw [hg] at hq
    injection hq with hq
    injection hq with _ hq _
    exact ht hq.symm
/-- One more way's pointer is appended. -/
theorem MgP.app (h : MgP w0 w b ba bs vb vr k every limit now qo qa) {b2 : Nat} {v' : Value} (hs : Sq w b2 qo) (h0 : w0.heap.size ≤ b2) (hne : ∀ i, i < k → bs i ≠ b2) (hna : b2 ≠ ba) (hr : w'.ownsRow w0.heap.size 26 1 v' (k + 1) (pv (upd bs k b2) (k + 1))) (hg : w.grownBy w' vr.ownBlock) : MgP w0 w' b ba (upd bs k b2) vb v' (k + 1) every limit now qo qa := by
  obtain ⟨h1, h2, h3, h4, h5, h6, h7, h8, h9, h10⟩ := h
  have ks : ∀ q x, Sq w q x → Sq w' q x := fun q x hx => (hg.block q hx.lt (own_ne h2 hx (by decide))).trans hx
  refine ⟨(hg.block _ (lt_of_heap h1) (own_ne h2 h1 (by decide))).trans h1, hr, fun i hi => ?_, ks _ _ h4, fun i j hi hj => ?_, fun i hi => ?_, h7, h8, fun i hi => ?_, ?_⟩
  · by_cases e : i = k
    · subst e; rw [upd_same]; exact ks _ _ hs
    · rw [upd_other _ _ e]; exact ks _ _ (h3 i (by omega))
  · by_cases e : i = k
    · subst e
      by_cases e2 : j = i
      · intro _; exact e2.symm
      · rw [upd_same, upd_other _ _ e2]; intro e3; exact absurd e3.symm (hne j (by omega))
    · by_cases e2 : j = k
      · subst e2
        rw [upd_same, upd_other _ _ e]; intro e3; exact absurd e3 (hne i (by omega))
      · rw [upd_other _ _ e, upd_other _ _ e2]; exact h5 i j (by omega) (by omega)
  · by_cases e : i = k
    · subst e; rw [upd_same]; exact hna
    · rw [upd_other _ _ e]; exact h6 i (by omega)
  · by_cases e : i = k
    · subst e; rw [upd_same]; exact h0
    · rw [upd_other _ _ e]; exact h9 i (by omega)
  · exact h10.grown hg h10.size (fun q hq => (h2.lt q hq).1)
/-- The box takes the new row. -/
theorem MgP.boxed (h : MgP w0 w b ba bs vb vr k every limit now qo qa) : MgP w0 (w.setCell ⟨b, 2, none⟩ vr) b ba bs vr vr k every limit now qo qa := by
  obtain ⟨h1, h2, h3, h4, h5, h6, h7, h8, h9, h10⟩ := h
  have hb := set_but h1 2 vr
  refine ⟨heap_setCell_same w b 2 _ _ _ h1, ⟨h2.1, ?_⟩, fun i hi => (h3 i hi).but hb (fun e => sq_box (h3 i hi) h1 e.symm), h4.but hb (fun e => sq_box h4 h1 e.symm), h5, h6, h7, h8, h9, bSet h10 _ h7 _⟩
  rcases h2.2 with ⟨e1, hz⟩ | ⟨g, cap, cur, e1, a1, hg, a3⟩
  · exact .inl ⟨e1, hz⟩
  · exact .inr ⟨g, cap, cur, e1, a1, (hb.block _ (lt_of_heap hg) (row_box hg h1)).trans hg, a3⟩
theorem MgP.cells (h : MgP w0 w b ba bs vb vr k every limit now qo qa) : w.cell? ⟨b, 2, none⟩ = some vb ∧ w.frozen? ⟨b, 2, none⟩ = false := ⟨cell_of_row _ _ _ _ _ _ h.box, frozen_of_row _ _ _ _ _ h.box⟩
def M0 (n : Nat) (every limit now : Int) (qo qa : SQ) : MG := ⟨every, limit, now, 0, 0, n, fun _ => qo, qa⟩
/-- It is made. -/
theorem MgP.mg (h : MgP w0 w b ba bs vr vr k every limit now qo qa) (hk : 1 ≤ k) : Mg w b w0.heap.size w.heap.size (M0 k every limit now qo qa) := by
  obtain ⟨h1, h2, h3, h4, h5, h6, h7, h8, h9, h10⟩ := h
  rcases h2.2 with ⟨_, hz⟩ | ⟨g, cap, cur, rfl, a1, hg, a2, a3, a4, a5⟩
  · omega
  · refine ⟨g, cap, ba, bs, h1, ⟨cur, _, hg, fun i hi => ?_⟩, h3, h4, h5, h6, ⟨h7, lt_of_heap h1⟩, ⟨a1, lt_of_heap hg⟩, ⟨h8, h4.lt⟩, fun i hi => ⟨h9 i hi, (h3 i hi).lt⟩, Nat.le_refl _⟩
    have hi : i < k := hi
    have e := pv_at bs hi
    rw [← a5] at e
    rw [List.getElem?_take] at e
    rw [if_pos (by omega)] at e
    rw [← Array.getElem?_toList]
    exact e
end
/-- A pointer is appended to the row. -/
theorem wpList_appP {ops : Array Oper} {rest : List Oper} {o : Oper} {a : Act} {w : World} {Q : Exit → Act → World → Prop} (hgd : o.guard = none) (s x : Operand)
    (ho : o.op = .call { callee := .builtin .append, args := #[s, x], argTypes := #[81, 81] })
    (B : Nat) (v : Value) (bs : Nat → Nat) (k b g : Nat) (hs : a.eval s = v) (hx : a.eval x = .slice (some ⟨g, 0, none⟩) 1 1) (hown : w.ownsRow B 26 1 v k (pv bs k)) (hB : B ≤ w.heap.size) (hg : w.cell? ⟨g, 0, none⟩ = some (.pointer (some ⟨b, 0, none⟩))) (hk : k ≤ 1000)
    (h : ∀ v' w', w'.ownsRow B 26 1 v' (k + 1) (pv (upd bs k b) (k + 1)) → w.grownBy w' v.ownBlock → wpList Try.prog ops Q rest (a.put o.dst v') w') : wpList Try.prog ops Q (o :: rest) a w := by
  obtain ⟨i0, hi, hz0, hz1, hz2⟩ := info_parts Try.infoP
  refine wpList_append_own _ hgd s x 81 ho B 26 i0 _ 1 8 Try.underlying81 hi hz0 hz1 hz2 rfl (by decide) v k (pv bs k) hs hown ⟨g, 0, none⟩ 1 1 [.pointer (some ⟨b, 0, none⟩)] hx rfl (fun j e he => ?_) (fun u hu => by simp at hu; subst hu; rfl) (by unfold maxLen; omega) (by omega) hB ?_
  · have hj : j = 0 := by
      have := (List.getElem?_eq_some_iff.1 he).1
      simp at this; exact this
    subst hj
    simp at he
    subst he
    rw [show (⟨g, 0, none⟩ : Addr).add 0 = ⟨g, 0, none⟩ by unfold Addr.add; simp]
    exact hg
  · intro v' w' h1 h2 h3
    rw [← pv_snoc] at h1
    exact h v' w' h1 h2

theorem own_form {w : World} {base n : Nat} {xs : List Value} {v : Value} (h : w.ownsRow base 26 1 v n xs) : ∃ p m c, v = .slice p m c := by
  rcases h.2 with ⟨rfl, hz⟩ | ⟨g, cap, cur, rfl, _⟩
  · exact ⟨_, _, _, rfl⟩
  · exact ⟨_, _, _, rfl⟩
theorem M0_good {n : Nat} {every limit now : Int} {qo qa : SQ} (h1 : 1 ≤ n) (h8 : n ≤ 8) (ho : qo.Good) (ha : qa.Good) : (M0 n every limit now qo qa).Good := ⟨h1, h8, fun _ _ => ho, ha⟩
set_option maxRecDepth 20000 in
set_option maxHeartbeats 4000000 in
theorem mnew_ok (n : Nat) (w1 l1 r1 w2 l2 r2 every limit now : Int) (w : World) (h : okM (n : Int) w1 l1 r1 w2 l2 r2 every limit) (h0 : 0 ≤ now) (h1 : now ≤ 1099511627776) :
    Calls Try.prog 28 #[MV (n : Int) w1 l1 r1 w2 l2 r2 every limit, .int .i64 now] w fun e w' => ∃ b lo, e = .returned (.tuple #[.pointer (some ⟨b, 0, none⟩), .int .i64 0]) ∧ w.heap.size ≤ lo ∧ Mg w' b lo w'.heap.size (M0 n every limit now (Q0 w1 l1 r1 now) (Q0 w2 l2 r2 now)) ∧ Below w.heap.size w w' := by
  have HC := Lib.hid (fun W => mcheck_yes (n : Int) w1 l1 r1 w2 l2 r2 every limit W h)
  obtain ⟨⟨a1, a2⟩, ⟨a3, a4⟩, ⟨a5, a6⟩, o1, o2⟩ := h
  have d : decide (now < 0) = false := decide_eq_false (by omega)
  have d2 : decide (1099511627776 < now) = false := decide_eq_false (by omega)
  have H1 := Lib.hid (fun W => qnew_ok w1 l1 r1 now W o1)
  have H2 := Lib.hid (fun W => qnew_ok w2 l2 r2 now W o2)
  have K0 := Lib.hid (MB.new w (n : Int) w1 l1 r1 w2 l2 r2 every limit)
  have HN : Hid (1 ≤ n ∧ n ≤ 8) := Lib.hid (by omega)
  obtain ⟨W0, hW0⟩ : ∃ W0, w.alloc (.cells #[.int .i64 (n : Int), .int .i64 w1, .int .i64 l1, .int .i64 r1, .int .i64 w2, .int .i64 l2, .int .i64 r2, .int .i64 every, .int .i64 limit] 59) = W0 := ⟨_, rfl⟩
  have HW0 := Lib.hid hW0
  have HS0 : Hid (W0.heap.size = w.heap.size + 1) := Lib.hid (by rw [← hW0]; simp)
  rw [hW0] at K0
  have HB0 : Hid (Below w.heap.size w W0) := Lib.hid (by rw [← hW0]; exact bAl (bRef w) _)
  clear h0 h1 a1 a2 a3 a4 a5 a6 o1 o2 hW0
  go_enter Try.func28, Try.ntmps28
  go_wp2_with (first
    | (go_at_call 41; rw [HW0.out]; (with_reducible refine (HC.out _).mono ?_); rintro e x1 ⟨rfl, hb⟩; have HB1 := Lib.hid hb; have K1 := Lib.hid (K0.out.below hb); obtain ⟨k0, k1, k2, k3, k4, k5, k6, k7, k8⟩ := K1.out.cells; have K2 := Lib.hid (K1.out.below (bAl (bRef x1) (.cells #[.int .i64 every, .int .i64 limit, .slice none 0 0, .pointer none, .int .i64 now, .int .i64 0, .int .i64 0] 83))); obtain ⟨j0, j1, j2, j3, j4, j5, j6, j7, j8⟩ := K2.out.cells; clear hb)
    | (go_at_call 14; (with_reducible refine (H2.out _).mono ?_); rintro e x2 ⟨ba, rfl, hm, hb0, hb⟩; have HA := Lib.hid hm; have HA0 := Lib.hid hb0; have HB2 := Lib.hid hb; have hbox := (hb.block x1.heap.size (by simp)).trans (heap_alloc_one' x1 _); have HBox := Lib.hid hbox; have k3x := cell_of_row _ _ 3 _ _ _ hbox; have k3f := frozen_of_row _ _ 3 _ _ hbox; have K3 := Lib.hid (K2.out.below hb); obtain ⟨i0, i1, i2, i3, i4, i5, i6, i7, i8⟩ := K3.out.cells; clear hm hb0 hb hbox))
  go_loopw [40] (fun kv wr => ∃ (k : Nat) (bs : Nat → Nat) (v : Value), kv = .int .i64 (k : Int) ∧ k ≤ n ∧ MgP W0 wr x1.heap.size ba bs v v k every limit now (Q0 w1 l1 r1 now) (Q0 w2 l2 r2 now) ∧ MB wr w.heap.size (n : Int) w1 l1 r1 w2 l2 r2 every limit) (fun kv _ => n - (intOf kv).toNat)
  case atStart =>
    have hs := HB1.out.size
    have ha0 := HA0.out
    simp only [World.size_alloc] at ha0
    have hsb := set_but HBox.out 3 (.pointer (some ⟨ba, 0, none⟩))
    have hbl : Below W0.heap.size W0 x2 := bTr (bAl HB1.out _) HB2.out
    refine ⟨0, fun _ => 0, .slice none 0 0, rfl, by omega, ⟨heap_setCell_same x2 x1.heap.size 3 _ _ _ HBox.out, ⟨rfl, .inl ⟨rfl, rfl⟩⟩, fun i hi => absurd hi (by omega), HA.out.but hsb (by omega), fun i _ hi => absurd hi (by omega), fun i hi => absurd hi (by omega), hs, by omega, fun i hi => absurd hi (by omega), bSet hbl _ hs _⟩, ?_⟩
    exact (hsb.block _ K3.out.lt (by have := K0.out.lt; omega)).trans K3.out
  case round =>
    obtain ⟨k, bs, v, rfl, hk, hp, hK⟩ := hrel
    have HP := Lib.hid hp
    have HK := Lib.hid hK
    obtain ⟨hn1, hn8⟩ := HN.out
    obtain ⟨y0, y1, y2, y3, y4, y5, y6, y7, y8⟩ := hK.cells
    obtain ⟨p, nn, c, rfl⟩ := own_form hp.row
    clear hp hK i0 i1 i2 i3 i4 i5 i6 i7 i8 j0 j1 j2 j3 j4 j5 j6 j7 j8 k0 k1 k2 k3 k4 k5 k6 k7 k8 k3x k3f
    rcases Nat.lt_or_ge k n with g1 | g1
    · have hd : decide ((k : Int) < (n : Int)) = true := decide_eq_true (by omega)
      have hs0 := HB0.out.size
      have hbs := HP.out.bel.size
      go_wp2_with (first
        | (go_at_call 14; (with_reducible refine (H1.out _).mono ?_); rintro e w3 ⟨b2, rfl, hm, hb0, hb⟩; have HS := Lib.hid hm; have HS1 := Lib.hid hb0; have HP3 := Lib.hid (HP.out.below hb); have HK3 := Lib.hid (HK.out.below hb); obtain ⟨q2, q2f⟩ := HP3.out.cells; have HLT := Lib.hid (fun i hi => (HP.out.ones i hi).lt); have HLA := Lib.hid HP.out.all.lt; have HAP := Lib.hid (HP3.out.alloc (.cells #[.pointer (some ⟨b2, 0, none⟩)] 26)); clear hm hb0 hb)
        | (refine wpList_appP rfl _ _ rfl W0.heap.size _ bs k b2 w3.heap.size rfl rfl HAP.out.row HAP.out.bel.size (by simp) (by omega) ?_; intro v' w4 hr hg; have HP4 := Lib.hid (HAP.out.app (b2 := b2) (HS.out.alloc _) (by have := HS1.out; omega) (fun i hi => by have := HLT.out i hi; have := HS1.out; omega) (by have := HLA.out; have := HS1.out; omega) hr hg); have HKa := Lib.hid (HK3.out.below (bAl (bRef w3) (.cells #[.pointer (some ⟨b2, 0, none⟩)] 26))); have HK4 : Hid (MB w4 w.heap.size (n : Int) w1 l1 r1 w2 l2 r2 every limit) := Lib.hid ((hg.block _ HKa.out.lt (own_ne HAP.out.row HKa.out (by decide))).trans HKa.out); obtain ⟨q2', q2f'⟩ := HP4.out.cells; obtain ⟨p', nn', c', rfl⟩ := own_form hr; clear hr hg))
      go_roundw
      case rel => exact ⟨k + 1, upd bs k b2, _, by go_num, by omega, HP4.out.boxed, ((set_but HP4.out.box 2 _).block _ HK4.out.lt (by have := HB1.out.size; have := HS0.out; omega)).trans HK4.out⟩
      case measure => simp [intOf]; omega
    · obtain rfl : k = n := by omega
      have hd : decide ((k : Int) < (k : Int)) = false := decide_eq_false (by omega)
      go_wp2_with fail
      go_ret2
      exact ⟨_, _, rfl, by have := HS0.out; omega, HP.out.mg hn1, HB0.out.trans (HP.out.bel.mono HB0.out.size)⟩

end Go.Proofs.Ytnkblihdgfhcdaa
