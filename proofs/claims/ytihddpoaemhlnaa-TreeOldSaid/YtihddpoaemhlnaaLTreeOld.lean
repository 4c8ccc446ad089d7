/- For any clock, any message and any two ints TreeOld answers true: what was heard counts for just so long, and goes with its link. No condition. -/
import Derived.Test.YtihddpoaemhlnaaFTreeOld
import Derived.Test.YtihddpoaemhlnaaTrOld
import Derived.Test.YtihddpoaemhlnaaBtLow
namespace Go.Proofs.Ytihddpoaemhlnaa
open Go.RowKit Go.Joins Go.Deep

theorem oldS (n : Int) : bits .and .i64 n 65535 = n % 65536 := and_low n 16 (by omega)
theorem oldL (n : Int) : bits .and .i64 n 131071 = n % 131072 := and_low n 17 (by omega)
theorem lrow {xs : List Int} {w : World} {u : Value} (h : LArg w u xs) : ∃ p c, u = .slice p xs.length c := h.slice
/-- The two boxes in a world that came of w. -/
structure Ob2 (w W : World) (ow cs : Array Value) : Prop where
  bel : Below w.heap.size w W
  own : W.heap[w.heap.size]? = some (.cells ow 23 (0, 0))
  msg : W.heap[w.heap.size + 1]? = some (.cells cs 58 (0, 0))
/-- .. and the tree. -/
structure ObT (w W : World) (ow cs : Array Value) (b g : Nat) (t : Ts) : Prop where
  os : Ob2 w W ow cs
  tr : Tr W b g t
  lg : w.heap.size ≤ g
section
variable {w W W' : World} {ow cs : Array Value} {b g : Nat} {t t' : Ts}
theorem Ob2.below (h : Ob2 w W ow cs) (hb : Below W.heap.size W W') : Ob2 w W' ow cs := ⟨bTr h.bel hb, (hb.block _ (lt_of_heap h.own)).trans h.own, (hb.block _ (lt_of_heap h.msg)).trans h.msg⟩
theorem ObT.below (h : ObT w W ow cs b g t) (hb : Below W.heap.size W W') : ObT w W' ow cs b g t := ⟨h.os.below hb, h.tr.below hb, h.lg⟩
theorem ObT.set (h : ObT w W ow cs b g t) (hl : LeaveT b g W t' W') : ObT w W' ow cs b g t' := by
  obtain ⟨c, hc⟩ := h.tr.tag
  exact ⟨⟨hl.2.from_ h.os.bel h.lg, (hl.2.block _ (lt_of_heap h.os.own) (neq_tag h.os.own hc (by decide))).trans h.os.own, (hl.2.block _ (lt_of_heap h.os.msg) (neq_tag h.os.msg hc (by decide))).trans h.os.msg⟩, hl.1, h.lg⟩
theorem Ob2.row (h : Ob2 w W ow cs) (ow' : Array Value) : Ob2 w (W.setRow w.heap.size ow') ow' cs :=
  ⟨bRow h.bel _ (Nat.le_refl _) _, setRow_heap _ _ _ _ _ _ h.own, (setRow_other _ _ _ _ (by omega)).trans h.msg⟩
theorem Ob2.cell (h : Ob2 w W ow cs) (i : Nat) (x : Value) : Ob2 w (W.setCell ⟨w.heap.size + 1, i, none⟩ x) ow (cs.setIfInBounds i x) :=
  ⟨h.bel.trans ⟨rfl, rfl, rfl, by simp, fun k hk => heap_setCell_other W ⟨w.heap.size + 1, i, none⟩ k x (by show k ≠ w.heap.size + 1; omega)⟩, (heap_setCell_other W ⟨w.heap.size + 1, i, none⟩ _ x (by show w.heap.size ≠ w.heap.size + 1; omega)).trans h.own, heap_setCell_same _ _ i _ _ x h.msg⟩
end
theorem pri_rows (m : Mg) (u : Value) : ∀ j x, (#[.int .i64 m.one, .int .i64 m.cls, .int .i64 m.two, .int .i64 m.id] : Array Value).toList[j]? = some x → (MC (oldM m) u)[10 + j]? = some x := mbest (oldM m) u
theorem old_news {mo : Int} (h0 : 1 ≤ mo) (h1 : mo ≤ 65536) (W : World) : Calls Try.prog 22 #[.int .i64 0, .agg #[.int .i64 9, .int .i64 0, .int .i64 0, .int .i64 1099511627776], .int .i64 2, .int .i64 mo] W fun e w' => ∃ b g, e = .returned (.tuple #[.pointer (some ⟨b, 0, none⟩), .int .i64 0]) ∧ Tr w' b g (oldT mo) ∧ W.heap.size ≤ b ∧ W.heap.size ≤ g ∧ Below W.heap.size W w' :=
  new_ok 0 oldO 2 mo W (old_new h0 h1) zero_in64 oldO_in
theorem old_bests {mo la : Int} {m : Mg} (hok : (oldT2 mo m).Ok) (hla : In64 la) {W : World} {b g : Nat} (h : Tr W b g (oldT2 mo m)) {a : Int} (ha : ((oldT2 mo m).best la).at_ = a) : Calls Try.prog 23 #[.pointer (some ⟨b, 0, none⟩), .int .i64 la] W fun e w' => ∃ (v : Vc) (q : Nat) (r : Int), e = .returned (.tuple #[.agg #[.int .i64 v.r.one, .int .i64 v.r.cls, .int .i64 v.r.two, .int .i64 v.r.id, .int .i64 v.steps, .int .i64 v.from_, .int .i64 v.port, .int .i64 (a)], .slice (some ⟨q, 0, none⟩) 2 2]) ∧ W.heap.size ≤ q ∧ w'.heap[q]? = some (.cells #[.int .i64 0, .int .i64 r] 3 (0, 0)) ∧ Below W.heap.size W w' := by
  obtain ⟨r, hr⟩ := old_roles mo la m
  refine (best_any h hok la hla).mono fun e w' ⟨q, h1, h2, h3, h4⟩ => ?_
  rw [hr] at h1 h3
  subst ha
  exact ⟨(oldT2 mo m).best la, q, r, h1, h2, h3, h4⟩
theorem old_roots {mo la : Int} {m : Mg} (hok : (oldT2 mo m).Ok) (hla : In64 la) {W : World} {b g : Nat} (h : Tr W b g (oldT2 mo m)) {x : Bool} (hx : (((oldT2 mo m).best la).at_ == -1) = x) : Calls Try.prog 26 #[.pointer (some ⟨b, 0, none⟩), .int .i64 la] W fun e w' => e = .returned (.bool x) ∧ Below W.heap.size W w' := by
  refine (root_any h hok la hla).mono fun e w' hq => ?_
  rw [hx] at hq
  exact hq
theorem old_last {mo : Int} {m : Mg} (hok : (oldT4 mo m).Ok) {W : World} {b g : Nat} (h : Tr W b g (oldT4 mo m)) : Calls Try.prog 26 #[.pointer (some ⟨b, 0, none⟩), .int .i64 0] W fun e w' => e = .returned (.bool true) ∧ Below W.heap.size W w' := by
  refine (root_any h hok 0 zero_in64).mono fun e w' hq => ?_
  rw [old_root] at hq
  exact hq
set_option maxRecDepth 20000 in
set_option maxHeartbeats 4000000 in
theorem old_any (z0 z1 z2 z3 : Int) (m : Mg) (u : Value) (x2 x3 : Int) (w : World) (hm : m.Wf) (hu : LArg w u m.path) : Calls Try.prog 11 #[.agg #[.int .i64 z0, .int .i64 z1, .int .i64 z2, .int .i64 z3], .agg (MC m u), .int .i64 x2, .int .i64 x3] w fun e w' => e = .returned (.bool true) ∧ Below w.heap.size w w' := by
  have HH := Lib.hid (fun W => head20_ret W)
  obtain ⟨pa, pc, rfl⟩ := lrow hu
  obtain ⟨ln, hln⟩ : ∃ ln, ln = m.path.length := ⟨_, rfl⟩
  have HU := Lib.hid hu
  have HM := Lib.hid hm
  rw [← hln] at HU ⊢
  rw [show MC m (.slice pa ln pc) = #[.int .i64 m.kind, .int .i64 m.dom, .int .i64 m.seq, .int .i64 m.src, .int .i64 m.port, .int .i64 m.corr, .int .i64 m.time, .int .i64 m.tw, .int .i64 m.tp, .int .i64 m.rate, .int .i64 m.one, .int .i64 m.cls, .int .i64 m.two, .int .i64 m.id, .int .i64 m.steps, .slice pa ln pc] from rfl]
  have HLN := Lib.hid hln
  have HS0 : Hid (Ob2 w ((w.alloc (.cells #[.int .i64 z0, .int .i64 z1, .int .i64 z2, .int .i64 z3] 23)).alloc (.cells #[.int .i64 m.kind, .int .i64 m.dom, .int .i64 m.seq, .int .i64 m.src, .int .i64 m.port, .int .i64 m.corr, .int .i64 m.time, .int .i64 m.tw, .int .i64 m.tp, .int .i64 m.rate, .int .i64 m.one, .int .i64 m.cls, .int .i64 m.two, .int .i64 m.id, .int .i64 m.steps, .slice pa ln pc] 58)) _ _) := Lib.hid ⟨bAl (bAl (bRef w) _) _, ((bAl (bRef _) _).block _ (by simp)).trans (heap_alloc_new w _), heap_alloc2_new w _ _⟩
  clear hm hu hln
  by_cases hl : 31 < ln
  · have hd : decide ((31 : Int) < (ln : Int)) = true := decide_eq_true (by omega)
    go_enter Try.func11, Try.ntmps11
    go_wp2_with (go_at_call 21; (with_reducible refine (HH.out _).mono ?_); rintro e w1 ⟨rfl, hb⟩; have HS1 := Lib.hid (HS0.out.below hb); have c15 := cell_of_row _ _ 15 _ _ _ HS1.out.msg; clear hb)
    go_ret
    exact ⟨rfl, HS1.out.bel⟩
  have hd : decide ((31 : Int) < (ln : Int)) = false := decide_eq_false (by omega)
  have HL := Lib.hid hl
  have l1 := oldS x2
  have l2 := oldL x3
  obtain ⟨e0, he0⟩ : ∃ e0 : Int, x2 % 65536 = e0 := ⟨_, rfl⟩
  obtain ⟨la, hla⟩ : ∃ la : Int, x3 % 131072 = la := ⟨_, rfl⟩
  obtain ⟨mo, hmo⟩ : ∃ mo : Int, 1 + e0 = mo := ⟨_, rfl⟩
  have hw1 : wrap64 (1 + e0) = mo := by unfold wrap64; omega
  have HMo : Hid (1 ≤ mo ∧ mo ≤ 65536) := Lib.hid (by omega)
  have HLa : Hid (0 ≤ la ∧ In64 la) := Lib.hid ⟨by omega, by unfold In64; omega⟩
  rw [he0] at l1
  rw [hla] at l2
  clear he0 hla hmo hl
  go_enter Try.func11, Try.ntmps11
  go_upto_region 8 with (first
    | (go_at_call 21; (with_reducible refine (HH.out _).mono ?_); rintro e w1 ⟨rfl, hb⟩; have HS1 := Lib.hid (HS0.out.below hb); have c15 := cell_of_row _ _ 15 _ _ _ HS1.out.msg; clear hb)
    | ((with_reducible refine at_storeP ?_); refine wpList_store_row rfl _ _ _ rfl w.heap.size #[.int .i64 9, .int .i64 0, .int .i64 0, .int .i64 1099511627776] rfl rfl _ _ HS1.out.own (by kernel_rfl) rfl (by simp [Value.oneCell']) ?_))
  rw [hw1]
  have HS2 := Lib.hid (HS1.out.row #[.int .i64 9, .int .i64 0, .int .i64 0, .int .i64 1099511627776])
  generalize w1.setRow w.heap.size #[.int .i64 9, .int .i64 0, .int .i64 0, .int .i64 1099511627776] = W2 at *
  clear c15 hw1 l1 l2 HH HS0
  have f0 := frozen_of_row W2 (w.heap.size + 1) 0 _ _ HS2.out.msg
  have f1 := frozen_of_row W2 (w.heap.size + 1) 1 _ _ HS2.out.msg
  have k0 : W2.cell? ⟨w.heap.size + 1, 0, none⟩ = some (.int .i64 m.kind) := cell_of_row _ _ 0 _ _ _ HS2.out.msg
  have k1 : W2.cell? ⟨w.heap.size + 1, 1, none⟩ = some (.int .i64 m.dom) := cell_of_row _ _ 1 _ _ _ HS2.out.msg
  go_upto_region 10 with fail
  have HS3 : Hid (Ob2 w ((W2.setCell ⟨w.heap.size + 1, 0, none⟩ (.int .i64 11)).setCell ⟨w.heap.size + 1, 1, none⟩ (.int .i64 0)) #[.int .i64 9, .int .i64 0, .int .i64 0, .int .i64 1099511627776] #[.int .i64 11, .int .i64 0, .int .i64 m.seq, .int .i64 m.src, .int .i64 m.port, .int .i64 m.corr, .int .i64 m.time, .int .i64 m.tw, .int .i64 m.tp, .int .i64 m.rate, .int .i64 m.one, .int .i64 m.cls, .int .i64 m.two, .int .i64 m.id, .int .i64 m.steps, .slice pa ln pc]) := Lib.hid ((HS2.out.cell 0 (.int .i64 11)).cell 1 (.int .i64 0))
  generalize (W2.setCell ⟨w.heap.size + 1, 0, none⟩ (.int .i64 11)).setCell ⟨w.heap.size + 1, 1, none⟩ (.int .i64 0) = W3 at *
  clear f0 f1 k0 k1 HS2 HS1
  have HN := Lib.hid (fun W => old_news HMo.out.1 HMo.out.2 W)
  have HIn : Hid (∀ (W : World) (b g : Nat) (t : Ts), Tr W b g t → t.Ok → Below w.heap.size w W → Calls Try.prog 27 #[.pointer (some ⟨b, 0, none⟩), .int .i64 1, .agg #[.int .i64 11, .int .i64 0, .int .i64 m.seq, .int .i64 m.src, .int .i64 m.port, .int .i64 m.corr, .int .i64 m.time, .int .i64 m.tw, .int .i64 m.tp, .int .i64 m.rate, .int .i64 m.one, .int .i64 m.cls, .int .i64 m.two, .int .i64 m.id, .int .i64 m.steps, .slice pa ln pc], .int .i64 0] W fun e w' => e = .returned (.int .i64 (t.inC 1 (oldM m))) ∧ LeaveT b g W (t.inT 1 (oldM m) 0) w') := Lib.hid (fun W b g t h hok hb => in_any h hok 1 (oldM m) (.slice pa ln pc) 0 (oldM_wf HM.out) (HU.out.below hb) (by
    have := HL.out
    have := HLN.out
    show m.path.length ≤ 1000
    omega))
  have HUp := Lib.hid (fun (W : World) (b g : Nat) (t : Ts) (x : Bool) (h : Tr W b g t) => up_any h 1 x)
  have HI0 : Hid ((oldT mo).inC 1 (oldM m) ≠ 0) := Lib.hid (old_in0 mo m)
  have HT0 : Hid ((oldT mo).inT 1 (oldM m) 0 = oldT mo) := Lib.hid (old_inT0 mo m)
  have HOk0 := Lib.hid (old_ok HMo.out.1 HMo.out.2)
  have HOk1 := Lib.hid (old_ok1 HMo.out.1 HMo.out.2)
  obtain ⟨c1, hc1⟩ : ∃ c, (oldT mo).inC 1 (oldM m) = c := ⟨_, rfl⟩
  obtain ⟨c2, hc2⟩ : ∃ c, (oldT1 mo).inC 1 (oldM m) = c := ⟨_, rfl⟩
  have HC1 := Lib.hid hc1
  have HC2 := Lib.hid hc2
  have i1 : (c1 == 0) = false := by rw [beq_eq_false_iff_ne, ← hc1]; exact HI0.out
  clear hc1 hc2
  by_cases h2 : c2 = 0
  · have i2 : (c2 != 0) = false := by rw [h2]; rfl
    have HT1 : Hid ((oldT1 mo).inT 1 (oldM m) 0 = oldT2 mo m) := Lib.hid (old_inT1 (HC2.out.trans h2))
    have HOk2 := Lib.hid (old_ok2 HMo.out.1 HMo.out.2 HM.out (m := m))
    have HOk4 := Lib.hid (old_ok4 HMo.out.1 HMo.out.2 HM.out (m := m))
    have HPc : Hid (∀ W, Calls Try.prog 13 #[.agg #[.int .i64 m.one, .int .i64 m.cls, .int .i64 m.two, .int .i64 m.id], .agg #[.int .i64 9, .int .i64 0, .int .i64 0, .int .i64 1099511627776]] W fun e w' => e = .returned (.int .i64 ((⟨m.one, m.cls, m.two, m.id⟩ : Pri).cmp oldO)) ∧ Below W.heap.size W w') := Lib.hid (fun W => pcmp_any ⟨m.one, m.cls, m.two, m.id⟩ oldO W)
    have HBest := Lib.hid (fun (a : Int) (ha : ((oldT2 mo m).best la).at_ = a) (W : World) (b g : Nat) (h : Tr W b g (oldT2 mo m)) => old_bests HOk2.out HLa.out.2 h ha)
    have HRoot := Lib.hid (fun (x : Bool) (hx : (((oldT2 mo m).best la).at_ == -1) = x) (W : World) (b g : Nat) (h : Tr W b g (oldT2 mo m)) => old_roots HOk2.out HLa.out.2 h hx)
    have HLast := Lib.hid (fun (W : World) (b g : Nat) (h : Tr W b g (oldT4 mo m)) => old_last HOk4.out h)
    have HAt := Lib.hid (fun h => old_best (most := mo) (m := m) HLa.out.1 h)
    have HNo := Lib.hid (fun h => old_none (most := mo) (m := m) HLa.out.1 h)
    clear h2
    generalize (⟨m.one, m.cls, m.two, m.id⟩ : Pri).cmp oldO = z at *
    by_cases hz : z < 0
    · have dz : decide (z < 0) = true := decide_eq_true hz
      by_cases hle : la ≤ mo
      · have dl : decide (la ≤ mo) = true := decide_eq_true hle
        have ha := HAt.out (by rw [dz, dl]; rfl)
        have HBa := Lib.hid (HBest.out 1 ha)
        have HRa := Lib.hid (HRoot.out false (by rw [ha]; rfl))
        clear ha HAt HNo
        go_wp2_with (first
          | ((with_reducible refine at_loadP ?_); refine wpList_loadW rfl _ _ rfl w.heap.size 0 rfl #[.int .i64 9, .int .i64 0, .int .i64 0, .int .i64 1099511627776] _ (range_whole HS3.out.own) Try.underlying23 rfl (by kernel_rfl) ?_)
          | (go_at_call 22; (with_reducible refine (HN.out _).mono ?_); rintro e w4 ⟨b, g, rfl, ht, _, hg, hb⟩; have HT4 : Hid (ObT w w4 _ _ b g (oldT mo)) := Lib.hid ⟨HS3.out.below hb, ht, Nat.le_trans HS3.out.bel.size hg⟩; clear ht hg hb)
          | ((with_reducible refine at_loadM ?_); refine wpList_loadW rfl _ _ rfl (w.heap.size + 1) 0 rfl #[.int .i64 11, .int .i64 0, .int .i64 m.seq, .int .i64 m.src, .int .i64 m.port, .int .i64 m.corr, .int .i64 m.time, .int .i64 m.tw, .int .i64 m.tp, .int .i64 m.rate, .int .i64 m.one, .int .i64 m.cls, .int .i64 m.two, .int .i64 m.id, .int .i64 m.steps, .slice pa ln pc] _ (range_whole HT4.out.os.msg) Try.underlying58 rfl (by kernel_rfl) ?_)
          | (go_at_call 27; (with_reducible refine (HIn.out _ _ _ _ HT4.out.tr HOk0.out HT4.out.os.bel).mono ?_); rw [HC1.out, HT0.out]; rintro e w5 ⟨rfl, hl⟩; have HT5 := Lib.hid (HT4.out.set hl); clear hl)
          | (go_at_call 25; (with_reducible refine (HUp.out _ _ _ _ true HT5.out.tr).mono ?_); rintro e w6 ⟨rfl, hl⟩; have HT6 : Hid (ObT w w6 _ _ b g (oldT1 mo)) := Lib.hid (HT5.out.set hl); clear hl)
          | ((with_reducible refine at_loadM ?_); refine wpList_loadW rfl _ _ rfl (w.heap.size + 1) 0 rfl #[.int .i64 11, .int .i64 0, .int .i64 m.seq, .int .i64 m.src, .int .i64 m.port, .int .i64 m.corr, .int .i64 m.time, .int .i64 m.tw, .int .i64 m.tp, .int .i64 m.rate, .int .i64 m.one, .int .i64 m.cls, .int .i64 m.two, .int .i64 m.id, .int .i64 m.steps, .slice pa ln pc] _ (range_whole HT6.out.os.msg) Try.underlying58 rfl (by kernel_rfl) ?_)
          | (go_at_call 27; (with_reducible refine (HIn.out _ _ _ _ HT6.out.tr HOk1.out HT6.out.os.bel).mono ?_); rw [HC2.out, HT1.out]; rintro e w7 ⟨rfl, hl⟩; have HT7 := Lib.hid (HT6.out.set hl); clear hl)
          | (go_at_call 23; (with_reducible refine (HBa.out _ _ _ HT7.out.tr).mono ?_); rintro e w8 ⟨v, q, r, rfl, _, hrow, hb⟩; have HT8 := Lib.hid ((HT7.out.below hb).below (bAl (bRef w8) (.cells #[.int .i64 v.r.one, .int .i64 v.r.cls, .int .i64 v.r.two, .int .i64 v.r.id, .int .i64 v.steps, .int .i64 v.from_, .int .i64 v.port, .int .i64 (1)] 25))); have HQ8 := Lib.hid (((bAl (bRef w8) (.cells #[.int .i64 v.r.one, .int .i64 v.r.cls, .int .i64 v.r.two, .int .i64 v.r.id, .int .i64 v.steps, .int .i64 v.from_, .int .i64 v.port, .int .i64 (1)] 25)).block _ (lt_of_heap hrow)).trans hrow); have HV8 := Lib.hid (heap_alloc_new w8 (.cells #[.int .i64 v.r.one, .int .i64 v.r.cls, .int .i64 v.r.two, .int .i64 v.r.id, .int .i64 v.steps, .int .i64 v.from_, .int .i64 v.port, .int .i64 (1)] 25)); clear hb hrow)
          | ((with_reducible refine at_loadP ?_); refine wpList_loadW rfl _ _ rfl (w.heap.size + 1) 10 rfl #[.int .i64 m.one, .int .i64 m.cls, .int .i64 m.two, .int .i64 m.id] _ (range_of_row HT8.out.os.msg 10 _ (pri_rows m _)) Try.underlying23 rfl (by kernel_rfl) ?_)
          | ((with_reducible refine at_loadP ?_); refine wpList_loadW rfl _ _ rfl w.heap.size 0 rfl #[.int .i64 9, .int .i64 0, .int .i64 0, .int .i64 1099511627776] _ (range_whole HT8.out.os.own) Try.underlying23 rfl (by kernel_rfl) ?_)
          | (go_at_call 13; (with_reducible refine (HPc.out _).mono ?_); rintro e w9 ⟨rfl, hb⟩; have HT9 := Lib.hid (HT8.out.below hb); have HQ9 := Lib.hid ((hb.block _ (lt_of_heap HQ8.out)).trans HQ8.out); have hv := (hb.block _ (lt_of_heap HV8.out)).trans HV8.out; have p7 := cell_of_row _ _ 7 _ _ _ hv; have hlp : w8.heap.size < w9.heap.size := lt_of_heap hv; clear hv hb)
          | (go_at_call 26; (with_reducible refine (HRa.out _ _ _ HT9.out.tr).mono ?_); rintro e w10 ⟨rfl, hb⟩; have HT10 := Lib.hid (HT9.out.below hb); have hq := (hb.block _ (lt_of_heap HQ9.out)).trans HQ9.out; have k0 := cell_of_row _ _ 0 _ _ _ hq; have hql : q < w10.heap.size := lt_of_heap hq; clear hq hb)
          | (go_at_call 25; (with_reducible refine (HUp.out _ _ _ _ false HT10.out.tr).mono ?_); rintro e w11 ⟨rfl, hl⟩; have HT11 := Lib.hid (HT10.out.set hl); clear hl)
          | (go_at_call 25; (with_reducible refine (HUp.out _ _ _ _ true HT11.out.tr).mono ?_); rintro e w12 ⟨rfl, hl⟩; have HT12 : Hid (ObT w w12 _ _ b g (oldT4 mo m)) := Lib.hid (HT11.out.set hl); clear hl)
          | (go_at_call 26; (with_reducible refine (HLast.out _ _ _ HT12.out.tr).mono ?_); rintro e w13 ⟨rfl, hb⟩; have HT13 := Lib.hid (HT12.out.below hb); clear hb))
        go_ret
        exact ⟨rfl, HT13.out.os.bel⟩
      · have dl : decide (la ≤ mo) = false := decide_eq_false hle
        have ha := HNo.out (by rw [dz, dl]; rfl)
        have HBa := Lib.hid (HBest.out (-1) ha)
        have HRa := Lib.hid (HRoot.out true (by rw [ha]; rfl))
        clear ha HAt HNo
        go_wp2_with (first
          | ((with_reducible refine at_loadP ?_); refine wpList_loadW rfl _ _ rfl w.heap.size 0 rfl #[.int .i64 9, .int .i64 0, .int .i64 0, .int .i64 1099511627776] _ (range_whole HS3.out.own) Try.underlying23 rfl (by kernel_rfl) ?_)
          | (go_at_call 22; (with_reducible refine (HN.out _).mono ?_); rintro e w4 ⟨b, g, rfl, ht, _, hg, hb⟩; have HT4 : Hid (ObT w w4 _ _ b g (oldT mo)) := Lib.hid ⟨HS3.out.below hb, ht, Nat.le_trans HS3.out.bel.size hg⟩; clear ht hg hb)
          | ((with_reducible refine at_loadM ?_); refine wpList_loadW rfl _ _ rfl (w.heap.size + 1) 0 rfl #[.int .i64 11, .int .i64 0, .int .i64 m.seq, .int .i64 m.src, .int .i64 m.port, .int .i64 m.corr, .int .i64 m.time, .int .i64 m.tw, .int .i64 m.tp, .int .i64 m.rate, .int .i64 m.one, .int .i64 m.cls, .int .i64 m.two, .int .i64 m.id, .int .i64 m.steps, .slice pa ln pc] _ (range_whole HT4.out.os.msg) Try.underlying58 rfl (by kernel_rfl) ?_)
          | (go_at_call 27; (with_reducible refine (HIn.out _ _ _ _ HT4.out.tr HOk0.out HT4.out.os.bel).mono ?_); rw [HC1.out, HT0.out]; rintro e w5 ⟨rfl, hl⟩; have HT5 := Lib.hid (HT4.out.set hl); clear hl)
          | (go_at_call 25; (with_reducible refine (HUp.out _ _ _ _ true HT5.out.tr).mono ?_); rintro e w6 ⟨rfl, hl⟩; have HT6 : Hid (ObT w w6 _ _ b g (oldT1 mo)) := Lib.hid (HT5.out.set hl); clear hl)
          | ((with_reducible refine at_loadM ?_); refine wpList_loadW rfl _ _ rfl (w.heap.size + 1) 0 rfl #[.int .i64 11, .int .i64 0, .int .i64 m.seq, .int .i64 m.src, .int .i64 m.port, .int .i64 m.corr, .int .i64 m.time, .int .i64 m.tw, .int .i64 m.tp, .int .i64 m.rate, .int .i64 m.one, .int .i64 m.cls, .int .i64 m.two, .int .i64 m.id, .int .i64 m.steps, .slice pa ln pc] _ (range_whole HT6.out.os.msg) Try.underlying58 rfl (by kernel_rfl) ?_)
          | (go_at_call 27; (with_reducible refine (HIn.out _ _ _ _ HT6.out.tr HOk1.out HT6.out.os.bel).mono ?_); rw [HC2.out, HT1.out]; rintro e w7 ⟨rfl, hl⟩; have HT7 := Lib.hid (HT6.out.set hl); clear hl)
          | (go_at_call 23; (with_reducible refine (HBa.out _ _ _ HT7.out.tr).mono ?_); rintro e w8 ⟨v, q, r, rfl, _, hrow, hb⟩; have HT8 := Lib.hid ((HT7.out.below hb).below (bAl (bRef w8) (.cells #[.int .i64 v.r.one, .int .i64 v.r.cls, .int .i64 v.r.two, .int .i64 v.r.id, .int .i64 v.steps, .int .i64 v.from_, .int .i64 v.port, .int .i64 (-1)] 25))); have HQ8 := Lib.hid (((bAl (bRef w8) (.cells #[.int .i64 v.r.one, .int .i64 v.r.cls, .int .i64 v.r.two, .int .i64 v.r.id, .int .i64 v.steps, .int .i64 v.from_, .int .i64 v.port, .int .i64 (-1)] 25)).block _ (lt_of_heap hrow)).trans hrow); have HV8 := Lib.hid (heap_alloc_new w8 (.cells #[.int .i64 v.r.one, .int .i64 v.r.cls, .int .i64 v.r.two, .int .i64 v.r.id, .int .i64 v.steps, .int .i64 v.from_, .int .i64 v.port, .int .i64 (-1)] 25)); clear hb hrow)
          | ((with_reducible refine at_loadP ?_); refine wpList_loadW rfl _ _ rfl (w.heap.size + 1) 10 rfl #[.int .i64 m.one, .int .i64 m.cls, .int .i64 m.two, .int .i64 m.id] _ (range_of_row HT8.out.os.msg 10 _ (pri_rows m _)) Try.underlying23 rfl (by kernel_rfl) ?_)
          | ((with_reducible refine at_loadP ?_); refine wpList_loadW rfl _ _ rfl w.heap.size 0 rfl #[.int .i64 9, .int .i64 0, .int .i64 0, .int .i64 1099511627776] _ (range_whole HT8.out.os.own) Try.underlying23 rfl (by kernel_rfl) ?_)
          | (go_at_call 13; (with_reducible refine (HPc.out _).mono ?_); rintro e w9 ⟨rfl, hb⟩; have HT9 := Lib.hid (HT8.out.below hb); have HQ9 := Lib.hid ((hb.block _ (lt_of_heap HQ8.out)).trans HQ8.out); have hv := (hb.block _ (lt_of_heap HV8.out)).trans HV8.out; have p7 := cell_of_row _ _ 7 _ _ _ hv; have hlp : w8.heap.size < w9.heap.size := lt_of_heap hv; clear hv hb)
          | (go_at_call 26; (with_reducible refine (HRa.out _ _ _ HT9.out.tr).mono ?_); rintro e w10 ⟨rfl, hb⟩; have HT10 := Lib.hid (HT9.out.below hb); have hq := (hb.block _ (lt_of_heap HQ9.out)).trans HQ9.out; have k0 := cell_of_row _ _ 0 _ _ _ hq; have hql : q < w10.heap.size := lt_of_heap hq; clear hq hb)
          | (go_at_call 25; (with_reducible refine (HUp.out _ _ _ _ false HT10.out.tr).mono ?_); rintro e w11 ⟨rfl, hl⟩; have HT11 := Lib.hid (HT10.out.set hl); clear hl)
          | (go_at_call 25; (with_reducible refine (HUp.out _ _ _ _ true HT11.out.tr).mono ?_); rintro e w12 ⟨rfl, hl⟩; have HT12 : Hid (ObT w w12 _ _ b g (oldT4 mo m)) := Lib.hid (HT11.out.set hl); clear hl)
          | (go_at_call 26; (with_reducible refine (HLast.out _ _ _ HT12.out.tr).mono ?_); rintro e w13 ⟨rfl, hb⟩; have HT13 := Lib.hid (HT12.out.below hb); clear hb))
        go_ret
        exact ⟨rfl, HT13.out.os.bel⟩
    · have dz : decide (z < 0) = false := decide_eq_false hz
      have ha := HNo.out (by rw [dz, Bool.and_false])
      have HBa := Lib.hid (HBest.out (-1) ha)
      have HRa := Lib.hid (HRoot.out true (by rw [ha]; rfl))
      clear ha HAt HNo
      go_wp2_with (first
        | ((with_reducible refine at_loadP ?_); refine wpList_loadW rfl _ _ rfl w.heap.size 0 rfl #[.int .i64 9, .int .i64 0, .int .i64 0, .int .i64 1099511627776] _ (range_whole HS3.out.own) Try.underlying23 rfl (by kernel_rfl) ?_)
        | (go_at_call 22; (with_reducible refine (HN.out _).mono ?_); rintro e w4 ⟨b, g, rfl, ht, _, hg, hb⟩; have HT4 : Hid (ObT w w4 _ _ b g (oldT mo)) := Lib.hid ⟨HS3.out.below hb, ht, Nat.le_trans HS3.out.bel.size hg⟩; clear ht hg hb)
        | ((with_reducible refine at_loadM ?_); refine wpList_loadW rfl _ _ rfl (w.heap.size + 1) 0 rfl #[.int .i64 11, .int .i64 0, .int .i64 m.seq, .int .i64 m.src, .int .i64 m.port, .int .i64 m.corr, .int .i64 m.time, .int .i64 m.tw, .int .i64 m.tp, .int .i64 m.rate, .int .i64 m.one, .int .i64 m.cls, .int .i64 m.two, .int .i64 m.id, .int .i64 m.steps, .slice pa ln pc] _ (range_whole HT4.out.os.msg) Try.underlying58 rfl (by kernel_rfl) ?_)
        | (go_at_call 27; (with_reducible refine (HIn.out _ _ _ _ HT4.out.tr HOk0.out HT4.out.os.bel).mono ?_); rw [HC1.out, HT0.out]; rintro e w5 ⟨rfl, hl⟩; have HT5 := Lib.hid (HT4.out.set hl); clear hl)
        | (go_at_call 25; (with_reducible refine (HUp.out _ _ _ _ true HT5.out.tr).mono ?_); rintro e w6 ⟨rfl, hl⟩; have HT6 : Hid (ObT w w6 _ _ b g (oldT1 mo)) := Lib.hid (HT5.out.set hl); clear hl)
        | ((with_reducible refine at_loadM ?_); refine wpList_loadW rfl _ _ rfl (w.heap.size + 1) 0 rfl #[.int .i64 11, .int .i64 0, .int .i64 m.seq, .int .i64 m.src, .int .i64 m.port, .int .i64 m.corr, .int .i64 m.time, .int .i64 m.tw, .int .i64 m.tp, .int .i64 m.rate, .int .i64 m.one, .int .i64 m.cls, .int .i64 m.two, .int .i64 m.id, .int .i64 m.steps, .slice pa ln pc] _ (range_whole HT6.out.os.msg) Try.underlying58 rfl (by kernel_rfl) ?_)
        | (go_at_call 27; (with_reducible refine (HIn.out _ _ _ _ HT6.out.tr HOk1.out HT6.out.os.bel).mono ?_); rw [HC2.out, HT1.out]; rintro e w7 ⟨rfl, hl⟩; have HT7 := Lib.hid (HT6.out.set hl); clear hl)
        | (go_at_call 23; (with_reducible refine (HBa.out _ _ _ HT7.out.tr).mono ?_); rintro e w8 ⟨v, q, r, rfl, _, hrow, hb⟩; have HT8 := Lib.hid ((HT7.out.below hb).below (bAl (bRef w8) (.cells #[.int .i64 v.r.one, .int .i64 v.r.cls, .int .i64 v.r.two, .int .i64 v.r.id, .int .i64 v.steps, .int .i64 v.from_, .int .i64 v.port, .int .i64 (-1)] 25))); have HQ8 := Lib.hid (((bAl (bRef w8) (.cells #[.int .i64 v.r.one, .int .i64 v.r.cls, .int .i64 v.r.two, .int .i64 v.r.id, .int .i64 v.steps, .int .i64 v.from_, .int .i64 v.port, .int .i64 (-1)] 25)).block _ (lt_of_heap hrow)).trans hrow); have HV8 := Lib.hid (heap_alloc_new w8 (.cells #[.int .i64 v.r.one, .int .i64 v.r.cls, .int .i64 v.r.two, .int .i64 v.r.id, .int .i64 v.steps, .int .i64 v.from_, .int .i64 v.port, .int .i64 (-1)] 25)); clear hb hrow)
        | ((with_reducible refine at_loadP ?_); refine wpList_loadW rfl _ _ rfl (w.heap.size + 1) 10 rfl #[.int .i64 m.one, .int .i64 m.cls, .int .i64 m.two, .int .i64 m.id] _ (range_of_row HT8.out.os.msg 10 _ (pri_rows m _)) Try.underlying23 rfl (by kernel_rfl) ?_)
        | ((with_reducible refine at_loadP ?_); refine wpList_loadW rfl _ _ rfl w.heap.size 0 rfl #[.int .i64 9, .int .i64 0, .int .i64 0, .int .i64 1099511627776] _ (range_whole HT8.out.os.own) Try.underlying23 rfl (by kernel_rfl) ?_)
        | (go_at_call 13; (with_reducible refine (HPc.out _).mono ?_); rintro e w9 ⟨rfl, hb⟩; have HT9 := Lib.hid (HT8.out.below hb); have HQ9 := Lib.hid ((hb.block _ (lt_of_heap HQ8.out)).trans HQ8.out); have hv := (hb.block _ (lt_of_heap HV8.out)).trans HV8.out; have p7 := cell_of_row _ _ 7 _ _ _ hv; have hlp : w8.heap.size < w9.heap.size := lt_of_heap hv; clear hv hb)
        | (go_at_call 26; (with_reducible refine (HRa.out _ _ _ HT9.out.tr).mono ?_); rintro e w10 ⟨rfl, hb⟩; have HT10 := Lib.hid (HT9.out.below hb); have hq := (hb.block _ (lt_of_heap HQ9.out)).trans HQ9.out; have k0 := cell_of_row _ _ 0 _ _ _ hq; have hql : q < w10.heap.size := lt_of_heap hq; clear hq hb)
        | (go_at_call 25; (with_reducible refine (HUp.out _ _ _ _ false HT10.out.tr).mono ?_); rintro e w11 ⟨rfl, hl⟩; have HT11 := Lib.hid (HT10.out.set hl); clear hl)
        | (go_at_call 25; (with_reducible refine (HUp.out _ _ _ _ true HT11.out.tr).mono ?_); rintro e w12 ⟨rfl, hl⟩; have HT12 : Hid (ObT w w12 _ _ b g (oldT4 mo m)) := Lib.hid (HT11.out.set hl); clear hl)
        | (go_at_call 26; (with_reducible refine (HLast.out _ _ _ HT12.out.tr).mono ?_); rintro e w13 ⟨rfl, hb⟩; have HT13 := Lib.hid (HT12.out.below hb); clear hb))
      go_ret
      exact ⟨rfl, HT13.out.os.bel⟩
  · have i2 : (c2 != 0) = true := by rw [bne_iff_ne]; exact h2
    clear h2
    go_wp2_with (first
      | ((with_reducible refine at_loadP ?_); refine wpList_loadW rfl _ _ rfl w.heap.size 0 rfl #[.int .i64 9, .int .i64 0, .int .i64 0, .int .i64 1099511627776] _ (range_whole HS3.out.own) Try.underlying23 rfl (by kernel_rfl) ?_)
      | (go_at_call 22; (with_reducible refine (HN.out _).mono ?_); rintro e w4 ⟨b, g, rfl, ht, _, hg, hb⟩; have HT4 : Hid (ObT w w4 _ _ b g (oldT mo)) := Lib.hid ⟨HS3.out.below hb, ht, Nat.le_trans HS3.out.bel.size hg⟩; clear ht hg hb)
      | ((with_reducible refine at_loadM ?_); refine wpList_loadW rfl _ _ rfl (w.heap.size + 1) 0 rfl #[.int .i64 11, .int .i64 0, .int .i64 m.seq, .int .i64 m.src, .int .i64 m.port, .int .i64 m.corr, .int .i64 m.time, .int .i64 m.tw, .int .i64 m.tp, .int .i64 m.rate, .int .i64 m.one, .int .i64 m.cls, .int .i64 m.two, .int .i64 m.id, .int .i64 m.steps, .slice pa ln pc] _ (range_whole HT4.out.os.msg) Try.underlying58 rfl (by kernel_rfl) ?_)
      | (go_at_call 27; (with_reducible refine (HIn.out _ _ _ _ HT4.out.tr HOk0.out HT4.out.os.bel).mono ?_); rw [HC1.out, HT0.out]; rintro e w5 ⟨rfl, hl⟩; have HT5 := Lib.hid (HT4.out.set hl); clear hl)
      | (go_at_call 25; (with_reducible refine (HUp.out _ _ _ _ true HT5.out.tr).mono ?_); rintro e w6 ⟨rfl, hl⟩; have HT6 : Hid (ObT w w6 _ _ b g (oldT1 mo)) := Lib.hid (HT5.out.set hl); clear hl)
      | ((with_reducible refine at_loadM ?_); refine wpList_loadW rfl _ _ rfl (w.heap.size + 1) 0 rfl #[.int .i64 11, .int .i64 0, .int .i64 m.seq, .int .i64 m.src, .int .i64 m.port, .int .i64 m.corr, .int .i64 m.time, .int .i64 m.tw, .int .i64 m.tp, .int .i64 m.rate, .int .i64 m.one, .int .i64 m.cls, .int .i64 m.two, .int .i64 m.id, .int .i64 m.steps, .slice pa ln pc] _ (range_whole HT6.out.os.msg) Try.underlying58 rfl (by kernel_rfl) ?_)
      | (go_at_call 27; (with_reducible refine (HIn.out _ _ _ _ HT6.out.tr HOk1.out HT6.out.os.bel).mono ?_); rw [HC2.out]; rintro e w7 ⟨rfl, hl⟩; have HT7 := Lib.hid (HT6.out.set hl); clear hl))
    go_ret
    exact ⟨rfl, HT7.out.os.bel⟩

theorem treeOld_holds : Rows.TreeOldSaid := treeOld_of (fun z0 z1 z2 z3 m u x2 x3 w _ _ _ _ hm hu _ _ => old_any z0 z1 z2 z3 m u x2 x3 w hm hu)

end Go.Proofs.Ytihddpoaemhlnaa
