/- For every list of gates and every row of steps GatesChanges answers true: whatever lists are to come, At tells the one that holds, and the gate has the one that is to come. No condition. -/
import Derived.Test.YtpdfgdjomlogbaaFGatesChanges
import Derived.Test.YtpdfgdjomlogbaaGtChg3
namespace Go.Proofs.Ytpdfgdjomlogbaa
open Go.RowKit Go.Joins

theorem hCallX {ops : Array Oper} {Q : Exit → Act → World → Prop} {S : World → Prop} {fuel : Nat} {listed : Array Bool} {a : Act} {w : World} {i k : Nat} {o : Oper} (hr : Region.ready .any ops listed = [i]) (ho : ops[i]? = some o) (hd : o.dst = some k) (hw : Region.wanted o (yielded ops a.tmps) = true) (f : FuncId) (args : Array Value)
    (hx : ∀ W, (execOp a.eval o).run Try.prog W = .ok (.enter f args) W) (R : Value → World → Prop) (hc : ∀ W, S W → Calls Try.prog f args W fun e W' => ∃ v, e = .returned v ∧ S W' ∧ R v W') (hS : S w)
    (h : ∀ v W', S W' → R v W' → wpAnyH Try.prog .any ops Q S fuel (listed.setIfInBounds i true) { a with tmps := a.tmps.setIfInBounds k v } W') : wpAnyH Try.prog .any ops Q S (fuel + 1) listed a w := by
  refine wpAnyH_ready hr (by simp) (AllReadyH.cons ho (fun K hK => ?_) AllReadyH.nil)
  rw [if_pos hw]
  unfold Oper.wp
  rw [hx w]
  refine (hc w hS).mono fun e W' hh => ?_
  obtain ⟨v, rfl, hS', hR⟩ := hh
  exact hK _ _ hS' (fun hS'' => by rw [put_some k v _ hd]; exact h v W' hS'' hR)
theorem sg_at {w : World} {q : Option Addr} {m d j : Nat} (h : SArg w (.slice q m d) m) (hj : j < m) : ∃ b o, ∃ s : SP, q = some ⟨b, o, none⟩ ∧ s.Ok w ∧ b < w.heap.size ∧
    w.cell? ⟨b, o + j * 5, none⟩ = some (.bool s.set) ∧ w.cell? ⟨b, o + j * 5 + 1, none⟩ = some (.int .i64 s.b) ∧ w.cell? ⟨b, o + j * 5 + 2, none⟩ = some (.int .i64 s.c) ∧ w.cell? ⟨b, o + j * 5 + 3, none⟩ = some s.sl ∧ w.cell? ⟨b, o + j * 5 + 4, none⟩ = some (.int .i64 s.now) := by
  rcases h with ⟨e, _⟩ | ⟨h0, b, o, c, F, e, hb, hr⟩
  · omega
  · injection e with e1 e2 e3
    obtain ⟨h1, h2⟩ := hr j hj
    exact ⟨b, o, F j, e1, h1, hb, h2⟩
theorem changes_many (b c : Int) (p q : Option Addr) (n cap m d : Nat) (w : World) (h : 64 < n ∨ 40 < m) :
    Calls Try.prog 8 #[LV b c (.slice p n cap), .slice q m d] w fun e w' => e = .returned (.bool true) ∧ Below w.heap.size w w' := by
  have H1 := Lib.hid turns_head
  have HL0 := Lib.hid (LB.new w b c (.slice p n cap))
  rcases Nat.lt_or_ge 64 n with h1 | h1
  · have d1 : decide ((64 : Int) < (n : Int)) = true := decide_eq_true (by omega)
    clear h h1
    go_enter Try.func8, Try.ntmps8
    go_wp2_with (go_at_call 22; (with_reducible refine (H1.out _).mono ?_); rintro e v1 ⟨rfl, hb⟩; have HL1 := Lib.hid (HL0.out.below hb); have HB1 := Lib.hid (bTr (bAl (bRef w) _) hb); obtain ⟨i1, j1, k1⟩ := HL1.out.cells; clear hb)
    go_ret
    exact ⟨rfl, HB1.out⟩
  · have d1 : decide ((64 : Int) < (n : Int)) = false := decide_eq_false (by omega)
    have d2 : decide ((40 : Int) < (m : Int)) = true := decide_eq_true (by omega)
    clear h h1
    go_enter Try.func8, Try.ntmps8
    go_wp2_with (go_at_call 22; (with_reducible refine (H1.out _).mono ?_); rintro e v1 ⟨rfl, hb⟩; have HL1 := Lib.hid (HL0.out.below hb); have HB1 := Lib.hid (bTr (bAl (bRef w) _) hb); obtain ⟨i1, j1, k1⟩ := HL1.out.cells; clear hb)
    go_ret
    exact ⟨rfl, HB1.out⟩
set_option maxRecDepth 20000 in
set_option maxHeartbeats 8000000 in
theorem changes_few (b0 c0 : Int) (p q : Option Addr) (n cap m d : Nat) (ts : List (Int × Int)) (w : World) (h : TArg w (.slice p n cap) ts) (hn : n = ts.length) (hx : SArg w (.slice q m d) m) (hn64 : n ≤ 64) (hm40 : m ≤ 40) :
    Calls Try.prog 8 #[LV b0 c0 (.slice p n cap), .slice q m d] w fun e w' => e = .returned (.bool true) ∧ Below w.heap.size w w' := by
  have H1 := Lib.hid turns_head
  have HL0 := Lib.hid (LB.new w b0 c0 (.slice p n cap))
  have d1 : decide ((64 : Int) < (n : Int)) = false := decide_eq_false (by omega)
  have d2 : decide ((40 : Int) < (m : Int)) = false := decide_eq_false (by omega)
  have HX := Lib.hid hx
  have HT := Lib.hid h
  have HN := Lib.hid hn
  have HI := Lib.hid (fun (W : World) (hb : Below w.heap.size w W) (hs : w.heap.size < W.heap.size) => CI.init (b := b0) (c := c0) h (show ts.length ≤ 70 by omega) (bAl (bAl (bAl hb (.cells #[.int .i64 b0, .int .i64 c0, .slice p n cap, .int .i64 0, .int .i64 0, .slice none 0 0, .int .i64 0, .bool false] 49)) (.cells #[.int .i64 b0, .int .i64 c0, .slice p n cap] 24)) (.cells #[.int .i64 0, .int .i64 0, .slice none 0 0] 24)) hs (by simp))
  clear h hn hx
  go_enter Try.func8, Try.ntmps8
  go_wp2_with (go_at_call 22; (with_reducible refine (H1.out _).mono ?_); rintro e v1 ⟨rfl, hb⟩; have HL1 := Lib.hid (HL0.out.below hb); have HB1 := Lib.hid (bTr (bAl (bRef w) (.cells #[.int .i64 b0, .int .i64 c0, .slice p n cap] 24)) hb); obtain ⟨i1, j1, k1⟩ := HL1.out.cells; obtain ⟨i2, j2, k2⟩ := (HL1.out.below (bAl (bRef v1) (.cells #[.int .i64 b0, .int .i64 c0, .slice p n cap, .int .i64 0, .int .i64 0, .slice none 0 0, .int .i64 0, .bool false] 49))).cells; clear hb)
  go_loopw [8, 9, 35] (fun fv wv kv wr => ChRel w v1.heap.size b0 c0 (.slice p n cap) m fv wv kv wr) (fun _ _ kv _ => m - (intOf kv).toNat)
  case atStart =>
    refine ⟨0, by omega, rfl, _, rfl, rfl, HI.out v1 HB1.out (lt_of_heap HL1.out), ?_, ?_, ?_, ?_⟩
    · exact (heap_alloc_old _ _ (r := v1.heap.size) (by simp; omega)).trans ((heap_alloc_old _ _ (r := v1.heap.size) (by simp)).trans (heap_alloc_one v1 _))
    · have h2 := heap_alloc_one (v1.alloc (.cells #[.int .i64 b0, .int .i64 c0, .slice p n cap, .int .i64 0, .int .i64 0, .slice none 0 0, .int .i64 0, .bool false] 49)) (.cells #[.int .i64 b0, .int .i64 c0, .slice p n cap] 24)
      rw [show (v1.alloc (.cells #[.int .i64 b0, .int .i64 c0, .slice p n cap, .int .i64 0, .int .i64 0, .slice none 0 0, .int .i64 0, .bool false] 49)).heap.size = v1.heap.size + 1 by simp] at h2
      exact (heap_alloc_old _ _ (r := v1.heap.size + 1) (by simp)).trans h2
    · have h3 := heap_alloc_one ((v1.alloc (.cells #[.int .i64 b0, .int .i64 c0, .slice p n cap, .int .i64 0, .int .i64 0, .slice none 0 0, .int .i64 0, .bool false] 49)).alloc (.cells #[.int .i64 b0, .int .i64 c0, .slice p n cap] 24)) (.cells #[.int .i64 0, .int .i64 0, .slice none 0 0] 24)
      rw [show ((v1.alloc (.cells #[.int .i64 b0, .int .i64 c0, .slice p n cap, .int .i64 0, .int .i64 0, .slice none 0 0, .int .i64 0, .bool false] 49)).alloc (.cells #[.int .i64 b0, .int .i64 c0, .slice p n cap] 24)).heap.size = v1.heap.size + 1 + 1 by simp] at h3
      exact h3
    · exact ((HL1.out.below (bAl (bRef _) _)).below (bAl (bRef _) _)).below (bAl (bRef _) _)
  case round =>
    clear HL0 HL1 i1 j1 k1 i2 j2 k2
    obtain ⟨j, hj, rfl, P, rfl, rfl, hA⟩ := hrel
    have HA := Lib.hid hA
    rcases Nat.lt_or_ge j m with g | g
    · have hd : decide ((j : Int) < (m : Int)) = true := decide_eq_true (by omega)
      obtain ⟨bx, ox, s, rfl, hok, hbx, x0, x1, x2, x3, x4⟩ := sg_at HX.out g
      have hb := hA.ci.bel
      replace x0 := (hb.cell hbx).trans x0
      replace x1 := (hb.cell hbx).trans x1
      replace x2 := (hb.cell hbx).trans x2
      replace x3 := (hb.cell hbx).trans x3
      replace x4 := (hb.cell hbx).trans x4
      rcases s with ⟨st, sb, sc, ss, sts, sx⟩
      obtain ⟨-, -, -, ha⟩ := hok
      obtain ⟨ps, cs, hss⟩ := ha.slice
      dsimp only at ha x0 x1 x2 x3 x4 hss
      subst hss
      have HAr := Lib.hid ha
      obtain ⟨ns, hns⟩ : ∃ ns, sts.length = ns := ⟨_, rfl⟩
      have HNs := Lib.hid hns
      rw [hns] at x3 HAr
      have HO := Lib.hid (heap_alloc_one wr (StO ⟨st, sb, sc, .slice ps ns cs, sts, sx⟩))
      have HA1 := Lib.hid (show MC w v1.heap.size b0 c0 (.slice p n cap) wr.heap.size ⟨st, sb, sc, .slice ps ns cs, sts, sx⟩ P (wr.alloc (StO ⟨st, sb, sc, .slice ps ns cs, sts, sx⟩)) from ⟨hA.below (bAl (bRef wr) _), HO.out, hA.ci.lt⟩)
      obtain ⟨y0, y1, y2, y3, y4⟩ : _ ∧ _ ∧ _ ∧ _ ∧ _ := ⟨cell_of_row _ _ 0 _ _ _ HO.out, cell_of_row _ _ 1 _ _ _ HO.out, cell_of_row _ _ 2 _ _ _ HO.out, cell_of_row _ _ 3 _ _ _ HO.out, cell_of_row _ _ 4 _ _ _ HO.out⟩
      clear hA hb ha hns
      by_cases h70 : 70 < ns
      · have d3 : decide ((70 : Int) < (ns : Int)) = true := decide_eq_true (by omega)
        go_wp2_with fail
        go_roundw
        case rel => exact ⟨j + 1, by omega, by go_num, P, rfl, rfl, HA1.out.ca⟩
        case measure => simp [intOf]; omega
      · have d3 : decide ((70 : Int) < (ns : Int)) = false := decide_eq_false (by omega)
        go_upto_if 45 with (fail)
        have HPL := Lib.hid (fun W sl' (h : TArg W sl' sts) => plain_any (b := sb) (c := sc) h (by rw [HNs.out]; omega))
        have HRC := Lib.hid (fun W sl' (h : TArg W sl' sts) => rcheck_any sb sc sl' sts W h)
        go_cut [8, 9, 12, 13] (fun fv wv _ _ wx => MidRel w v1.heap.size b0 c0 (.slice p n cap) wr.heap.size ⟨st, sb, sc, .slice ps ns cs, sts, sx⟩ fv wv wx)
        case first =>
          cases st with
          | false =>
            go_wp2_with fail
            go_meet
            exact ⟨P, rfl, rfl, HA1.out⟩
          | true =>
            by_cases hz : chkV sb sc sts = 0
            · rw [hz] at HRC
              by_cases hx : sx < 0 ∨ 1099511627776 < sx
              · have HCH := Lib.hid (fun W (h : TArg W (.slice ps ns cs) sts) => change_late (k := v1.heap.size) sb sc (.slice ps ns cs) sts sx W h hz hx)
                by_cases h0 : sx < 0
                · have e1 : decide (sx < 0) = true := decide_eq_true h0
                  clear hz hx h0
                  go_wp2_with (first
              | (go_at_call 24; (with_reducible refine (HCH.out _ (HA1.out.arg HAr.out)).mono ?_); rintro e w1 ⟨rfl, hb⟩; have HA2 := Lib.hid (HA1.out.below hb); obtain ⟨z0, z1, z2, z3, z4⟩ := HA2.out.cells; clear hb)
              | (go_at_call 12; (with_reducible refine (HPL.out _ _ (HA2.out.arg HAr.out)).mono ?_); rintro e w2 ⟨sl2, rfl, ht2, hb⟩; have HT2 := Lib.hid ht2; have HA3 := Lib.hid (HA2.out.below hb); obtain ⟨v0, v1', v2, v3, v4⟩ := HA3.out.cells; clear hb ht2)
              | (go_at_call 11; (with_reducible refine (HRC.out _ _ HT2.out).mono ?_); rintro e w3 ⟨rfl, hb⟩; have HA4 := Lib.hid (HA3.out.below hb); obtain ⟨t0, t1, t2, t3, t4⟩ := HA4.out.cells; clear hb))
                  go_meet
                  exact ⟨P, rfl, rfl, HA4.out⟩
                · have e1 : decide (sx < 0) = false := decide_eq_false h0
                  have e2 : decide (1099511627776 < sx) = true := decide_eq_true (by omega)
                  clear hz hx h0
                  go_wp2_with (first
              | (go_at_call 24; (with_reducible refine (HCH.out _ (HA1.out.arg HAr.out)).mono ?_); rintro e w1 ⟨rfl, hb⟩; have HA2 := Lib.hid (HA1.out.below hb); obtain ⟨z0, z1, z2, z3, z4⟩ := HA2.out.cells; clear hb)
              | (go_at_call 12; (with_reducible refine (HPL.out _ _ (HA2.out.arg HAr.out)).mono ?_); rintro e w2 ⟨sl2, rfl, ht2, hb⟩; have HT2 := Lib.hid ht2; have HA3 := Lib.hid (HA2.out.below hb); obtain ⟨v0, v1', v2, v3, v4⟩ := HA3.out.cells; clear hb ht2)
              | (go_at_call 11; (with_reducible refine (HRC.out _ _ HT2.out).mono ?_); rintro e w3 ⟨rfl, hb⟩; have HA4 := Lib.hid (HA3.out.below hb); obtain ⟨t0, t1, t2, t3, t4⟩ := HA4.out.cells; clear hb))
                  go_meet
                  exact ⟨P, rfl, rfl, HA4.out⟩
              · have hx0 : 0 ≤ sx := by omega
                have hx1 : sx ≤ 1099511627776 := by omega
                have e1 : decide (sx < 0) = false := decide_eq_false (by omega)
                have e2 : decide (1099511627776 < sx) = false := decide_eq_false (by omega)
                have hgd := chk_good hz
                have HCH := Lib.hid (fun W (hg : GT W v1.heap.size P.g) (h : TArg W (.slice ps ns cs) sts) => change_ok hg HA1.out.ca.ci.sl sb sc (.slice ps ns cs) sts sx h (arg_off HAr.out HA1.out.ca.ci.kk) hz hx0 hx1 rfl)
                have HTU := Lib.hid (fun (sl' : Value) => rturn_any (sl := sl') (max sx sb) hz (show inT (max sx sb) from ⟨by omega, by have := hgd.b1; omega⟩))
                have HL70 : Hid (sts.length ≤ 70) := Lib.hid (by rw [HNs.out]; omega)
                obtain ⟨pc, cc, esc⟩ := HA1.out.ca.ci.ac.slice
                have ESC := Lib.hid esc
                clear esc hgd hx0 hx1
                by_cases hw : P.wt = true
                · by_cases hf : P.fr ≤ sx
                  · have HD := Lib.hid (show P.isDue sx from ⟨hw, hf⟩)
                    have e3 : decide (P.fr ≤ sx) = true := decide_eq_true hf
                    rw [hw]
                    clear hf hw
                    clear hz hx
                    go_upto_region 25 with (first
                | (go_at_call 24; (with_reducible refine (HCH.out _ HA1.out.ca.gt (HA1.out.arg HAr.out)).mono ?_); rintro e w1 ⟨p1, k1, rfl, hm, ht, hg, hb⟩; have HX1 := Lib.hid (HA1.out.change rfl HAr.out HL70.out hm ht hg hb); obtain ⟨z0, z1, z2, z3, z4⟩ := HX1.out.cells; clear hm ht hg hb)
                | (go_at_call 12; (with_reducible refine (HPL.out _ _ (HX1.out.arg HAr.out)).mono ?_); rintro e w2 ⟨sl2, rfl, ht2, hb⟩; have HT2 := Lib.hid ht2; have HX2 := Lib.hid (HX1.out.below hb); obtain ⟨v0, v1', v2, v3, v4⟩ := HX2.out.cells; clear hb ht2)
                | (go_at_call 11; (with_reducible refine (HRC.out _ _ HT2.out).mono ?_); rintro e w3 ⟨rfl, hb⟩; have HX3 := Lib.hid (HX2.out.below hb); obtain ⟨t0, t1, t2, t3, t4⟩ := HX3.out.cells; obtain ⟨n0, n1, n2⟩ := HX3.out.now.cells; obtain ⟨nf0, nf1, nf2⟩ := (⟨HX3.out.now.frozen 0, HX3.out.now.frozen 1, HX3.out.now.frozen 2⟩ : _ ∧ _ ∧ _); obtain ⟨m0, m1, m2⟩ := HX3.out.come.cells; obtain ⟨mf0, mf1, mf2⟩ := (⟨HX3.out.come.frozen 0, HX3.out.come.frozen 1, HX3.out.come.frozen 2⟩ : _ ∧ _ ∧ _); rw [ESC.out] at m2; clear hb; have HX4 := Lib.hid (HX3.out.setNow P.b2 P.c2 (.slice pc P.ts2.length cc)); obtain ⟨tt0, tt1, tt2, tt3, tt4⟩ := HX4.out.cells; obtain ⟨mm0, mm1, mm2⟩ := HX4.out.come.cells; obtain ⟨mmf0, mmf1, mmf2⟩ := (⟨HX4.out.come.frozen 0, HX4.out.come.frozen 1, HX4.out.come.frozen 2⟩ : _ ∧ _ ∧ _); rw [ESC.out] at mm2; have HX5 := Lib.hid (HX4.out.setCome sb sc (.slice ps ns cs))))
                    have HS0 := HX5.out.below (bRef _).drew
                    refine wp_region_held_drew (S := MX w v1.heap.size b0 c0 (.slice p n cap) wr.heap.size ⟨true, sb, sc, .slice ps ns cs, sts, sx⟩ ((P.turn sx).put sb sc (.slice p1 sts.length k1) (.slice ps ns cs) sts (turnV sb sc sts (max sx sb)).1 w1.heap.size) P.b2 P.c2 (.slice pc P.ts2.length cc) sb sc (.slice ps ns cs)) (by kernel_rfl) HS0 (fun _ => ?_)
                    refine hTake (i := 0) (k := 83) (v := .pointer (some ⟨wr.heap.size, 1, none⟩)) rfl rfl (by kernel_rfl) (by kernel_rfl) (by kernel_rfl) (fun _ _ _ h => h) (yieldsIf_val (by rfl) (by intro W; go_simp)) HS0 ?_
                    simp only [List.setIfInBounds_toArray, List.set_cons_zero, List.set_cons_succ]
                    refine hTake (i := 1) (k := 84) (v := LV sb sc (.slice ps ns cs)) rfl rfl (by kernel_rfl) (by kernel_rfl) (by kernel_rfl) (fun _ _ _ h => h) (.inl ⟨by rfl, fun W hW => by obtain ⟨q0, q1, q2, q3, q4⟩ := MX.cells hW; go_simp⟩) HS0 ?_
                    simp only [List.setIfInBounds_toArray, List.set_cons_zero, List.set_cons_succ]
                    refine hTake (i := 3) (k := 86) (v := .pointer (some ⟨wr.heap.size, 4, none⟩)) rfl rfl (by kernel_rfl) (by kernel_rfl) (by kernel_rfl) (fun _ _ _ h => h) (yieldsIf_val (by rfl) (by intro W; go_simp)) HS0 ?_
                    simp only [List.setIfInBounds_toArray, List.set_cons_zero, List.set_cons_succ]
                    refine hTake (i := 4) (k := 87) (v := .int .i64 sx) rfl rfl (by kernel_rfl) (by kernel_rfl) (by kernel_rfl) (fun _ _ _ h => h) (.inl ⟨by rfl, fun W hW => by obtain ⟨q0, q1, q2, q3, q4⟩ := MX.cells hW; go_simp⟩) HS0 ?_
                    simp only [List.setIfInBounds_toArray, List.set_cons_zero, List.set_cons_succ]
                    refine hTake (i := 5) (k := 88) (v := .pointer (some ⟨wr.heap.size, 1, none⟩)) rfl rfl (by kernel_rfl) (by kernel_rfl) (by kernel_rfl) (fun _ _ _ h => h) (yieldsIf_val (by rfl) (by intro W; go_simp)) HS0 ?_
                    simp only [List.setIfInBounds_toArray, List.set_cons_zero, List.set_cons_succ]
                    refine hTake (i := 6) (k := 89) (v := .pointer (some ⟨wr.heap.size, 1, none⟩)) rfl rfl (by kernel_rfl) (by kernel_rfl) (by kernel_rfl) (fun _ _ _ h => h) (yieldsIf_val (by rfl) (by intro W; go_simp)) HS0 ?_
                    simp only [List.setIfInBounds_toArray, List.set_cons_zero, List.set_cons_succ]
                    refine hTake (i := 7) (k := 90) (v := .int .i64 sb) rfl rfl (by kernel_rfl) (by kernel_rfl) (by kernel_rfl) (fun _ _ _ h => h) (.inl ⟨by rfl, fun W hW => by obtain ⟨q0, q1, q2, q3, q4⟩ := MX.cells hW; go_simp⟩) HS0 ?_
                    simp only [List.setIfInBounds_toArray, List.set_cons_zero, List.set_cons_succ]
                    refine hTake (i := 8) (k := 91) (v := .int .i64 (max sx sb)) rfl rfl (by kernel_rfl) (by kernel_rfl) (by kernel_rfl) (fun _ _ _ h => h) (yieldsIf_val (by rfl) (by intro W; go_simp; split <;> omega)) HS0 ?_
                    simp only [List.setIfInBounds_toArray, List.set_cons_zero, List.set_cons_succ]
                    refine hCallX (i := 2) (k := 85) (by kernel_rfl) rfl rfl (by rfl) 12 #[LV sb sc (.slice ps ns cs)] (by intro W; go_simp) (fun v W => ∃ sl', v = LV sb sc sl' ∧ TArg W sl' sts) (fun W hW => (HPL.out W _ (MX.arg hW HAr.out)).mono fun e W' hh => by obtain ⟨sl', rfl, h2, h3⟩ := hh; exact ⟨_, rfl, MX.below hW h3, sl', rfl, h2⟩) HS0 (fun v W1 HS1 hR => ?_)
                    obtain ⟨sl9, rfl, hT9⟩ := hR
                    simp only [List.setIfInBounds_toArray, List.set_cons_zero, List.set_cons_succ]
                    refine hCall (i := 9) (k := 92) (by kernel_rfl) rfl rfl (by rfl) 25 #[LV sb sc sl9, .int .i64 (max sx sb)] (by intro W; go_simp) (.int .i64 (turnV sb sc sts (max sx sb)).1) (fun W hW => (HTU.out sl9 W).mono fun e W' hh => ⟨hh.1, MX.below hW hh.2⟩) HS1 (fun W2 HS2 => ?_)
                    simp only [List.setIfInBounds_toArray, List.set_cons_zero, List.set_cons_succ]
                    refine hTake (i := 10) (k := 8) (v := .int .i64 (turnV sb sc sts (max sx sb)).1) rfl rfl (by kernel_rfl) (by kernel_rfl) (by kernel_rfl) (fun _ _ _ h => h) (yieldsIf_val (by rfl) (by intro W; go_simp)) HS2 ?_
                    simp only [List.setIfInBounds_toArray, List.set_cons_zero, List.set_cons_succ]
                    refine wpAnyH_done (by kernel_rfl) ?_ _
                    go_wp2_with fail
                    go_meet
                    refine ⟨((P.turn sx).put sb sc (.slice p1 sts.length k1) (.slice ps ns cs) sts (turnV sb sc sts (max sx sb)).1 w1.heap.size), rfl, rfl, MX.mc ?_⟩
                    rw [ESC.out.symm] at HS2
                    rw [CP.turn_yes HD.out] at HS2 ⊢
                    exact HS2
                  · have HD := Lib.hid (show ¬ P.isDue sx from fun k => hf k.2)
                    have e3 : decide (P.fr ≤ sx) = false := decide_eq_false hf
                    rw [hw]
                    clear hf hw
                    clear hz hx
                    go_upto_region 25 with (first
                | (go_at_call 24; (with_reducible refine (HCH.out _ HA1.out.ca.gt (HA1.out.arg HAr.out)).mono ?_); rintro e w1 ⟨p1, k1, rfl, hm, ht, hg, hb⟩; have HX1 := Lib.hid (HA1.out.change rfl HAr.out HL70.out hm ht hg hb); obtain ⟨z0, z1, z2, z3, z4⟩ := HX1.out.cells; clear hm ht hg hb)
                | (go_at_call 12; (with_reducible refine (HPL.out _ _ (HX1.out.arg HAr.out)).mono ?_); rintro e w2 ⟨sl2, rfl, ht2, hb⟩; have HT2 := Lib.hid ht2; have HX2 := Lib.hid (HX1.out.below hb); obtain ⟨v0, v1', v2, v3, v4⟩ := HX2.out.cells; clear hb ht2)
                | (go_at_call 11; (with_reducible refine (HRC.out _ _ HT2.out).mono ?_); rintro e w3 ⟨rfl, hb⟩; have HX3 := Lib.hid (HX2.out.below hb); obtain ⟨t0, t1, t2, t3, t4⟩ := HX3.out.cells; obtain ⟨n0, n1, n2⟩ := HX3.out.now.cells; obtain ⟨nf0, nf1, nf2⟩ := (⟨HX3.out.now.frozen 0, HX3.out.now.frozen 1, HX3.out.now.frozen 2⟩ : _ ∧ _ ∧ _); obtain ⟨m0, m1, m2⟩ := HX3.out.come.cells; obtain ⟨mf0, mf1, mf2⟩ := (⟨HX3.out.come.frozen 0, HX3.out.come.frozen 1, HX3.out.come.frozen 2⟩ : _ ∧ _ ∧ _); rw [ESC.out] at m2; clear hb; have HX5 := Lib.hid (HX3.out.setCome sb sc (.slice ps ns cs))))
                    have HS0 := HX5.out.below (bRef _).drew
                    refine wp_region_held_drew (S := MX w v1.heap.size b0 c0 (.slice p n cap) wr.heap.size ⟨true, sb, sc, .slice ps ns cs, sts, sx⟩ ((P.turn sx).put sb sc (.slice p1 sts.length k1) (.slice ps ns cs) sts (turnV sb sc sts (max sx sb)).1 w1.heap.size) P.b1 P.c1 P.sn sb sc (.slice ps ns cs)) (by kernel_rfl) HS0 (fun _ => ?_)
                    refine hTake (i := 0) (k := 83) (v := .pointer (some ⟨wr.heap.size, 1, none⟩)) rfl rfl (by kernel_rfl) (by kernel_rfl) (by kernel_rfl) (fun _ _ _ h => h) (yieldsIf_val (by rfl) (by intro W; go_simp)) HS0 ?_
                    simp only [List.setIfInBounds_toArray, List.set_cons_zero, List.set_cons_succ]
                    refine hTake (i := 1) (k := 84) (v := LV sb sc (.slice ps ns cs)) rfl rfl (by kernel_rfl) (by kernel_rfl) (by kernel_rfl) (fun _ _ _ h => h) (.inl ⟨by rfl, fun W hW => by obtain ⟨q0, q1, q2, q3, q4⟩ := MX.cells hW; go_simp⟩) HS0 ?_
                    simp only [List.setIfInBounds_toArray, List.set_cons_zero, List.set_cons_succ]
                    refine hTake (i := 3) (k := 86) (v := .pointer (some ⟨wr.heap.size, 4, none⟩)) rfl rfl (by kernel_rfl) (by kernel_rfl) (by kernel_rfl) (fun _ _ _ h => h) (yieldsIf_val (by rfl) (by intro W; go_simp)) HS0 ?_
                    simp only [List.setIfInBounds_toArray, List.set_cons_zero, List.set_cons_succ]
                    refine hTake (i := 4) (k := 87) (v := .int .i64 sx) rfl rfl (by kernel_rfl) (by kernel_rfl) (by kernel_rfl) (fun _ _ _ h => h) (.inl ⟨by rfl, fun W hW => by obtain ⟨q0, q1, q2, q3, q4⟩ := MX.cells hW; go_simp⟩) HS0 ?_
                    simp only [List.setIfInBounds_toArray, List.set_cons_zero, List.set_cons_succ]
                    refine hTake (i := 5) (k := 88) (v := .pointer (some ⟨wr.heap.size, 1, none⟩)) rfl rfl (by kernel_rfl) (by kernel_rfl) (by kernel_rfl) (fun _ _ _ h => h) (yieldsIf_val (by rfl) (by intro W; go_simp)) HS0 ?_
                    simp only [List.setIfInBounds_toArray, List.set_cons_zero, List.set_cons_succ]
                    refine hTake (i := 6) (k := 89) (v := .pointer (some ⟨wr.heap.size, 1, none⟩)) rfl rfl (by kernel_rfl) (by kernel_rfl) (by kernel_rfl) (fun _ _ _ h => h) (yieldsIf_val (by rfl) (by intro W; go_simp)) HS0 ?_
                    simp only [List.setIfInBounds_toArray, List.set_cons_zero, List.set_cons_succ]
                    refine hTake (i := 7) (k := 90) (v := .int .i64 sb) rfl rfl (by kernel_rfl) (by kernel_rfl) (by kernel_rfl) (fun _ _ _ h => h) (.inl ⟨by rfl, fun W hW => by obtain ⟨q0, q1, q2, q3, q4⟩ := MX.cells hW; go_simp⟩) HS0 ?_
                    simp only [List.setIfInBounds_toArray, List.set_cons_zero, List.set_cons_succ]
                    refine hTake (i := 8) (k := 91) (v := .int .i64 (max sx sb)) rfl rfl (by kernel_rfl) (by kernel_rfl) (by kernel_rfl) (fun _ _ _ h => h) (yieldsIf_val (by rfl) (by intro W; go_simp; split <;> omega)) HS0 ?_
                    simp only [List.setIfInBounds_toArray, List.set_cons_zero, List.set_cons_succ]
                    refine hCallX (i := 2) (k := 85) (by kernel_rfl) rfl rfl (by rfl) 12 #[LV sb sc (.slice ps ns cs)] (by intro W; go_simp) (fun v W => ∃ sl', v = LV sb sc sl' ∧ TArg W sl' sts) (fun W hW => (HPL.out W _ (MX.arg hW HAr.out)).mono fun e W' hh => by obtain ⟨sl', rfl, h2, h3⟩ := hh; exact ⟨_, rfl, MX.below hW h3, sl', rfl, h2⟩) HS0 (fun v W1 HS1 hR => ?_)
                    obtain ⟨sl9, rfl, hT9⟩ := hR
                    simp only [List.setIfInBounds_toArray, List.set_cons_zero, List.set_cons_succ]
                    refine hCall (i := 9) (k := 92) (by kernel_rfl) rfl rfl (by rfl) 25 #[LV sb sc sl9, .int .i64 (max sx sb)] (by intro W; go_simp) (.int .i64 (turnV sb sc sts (max sx sb)).1) (fun W hW => (HTU.out sl9 W).mono fun e W' hh => ⟨hh.1, MX.below hW hh.2⟩) HS1 (fun W2 HS2 => ?_)
                    simp only [List.setIfInBounds_toArray, List.set_cons_zero, List.set_cons_succ]
                    refine hTake (i := 10) (k := 8) (v := .int .i64 (turnV sb sc sts (max sx sb)).1) rfl rfl (by kernel_rfl) (by kernel_rfl) (by kernel_rfl) (fun _ _ _ h => h) (yieldsIf_val (by rfl) (by intro W; go_simp)) HS2 ?_
                    simp only [List.setIfInBounds_toArray, List.set_cons_zero, List.set_cons_succ]
                    refine wpAnyH_done (by kernel_rfl) ?_ _
                    go_wp2_with fail
                    go_meet
                    refine ⟨((P.turn sx).put sb sc (.slice p1 sts.length k1) (.slice ps ns cs) sts (turnV sb sc sts (max sx sb)).1 w1.heap.size), rfl, rfl, MX.mc ?_⟩
                    rw [CP.turn_no HD.out] at HS2 ⊢
                    exact HS2
                · have HD := Lib.hid (show ¬ P.isDue sx from fun k => hw k.1)
                  rw [show P.wt = false by simpa using hw]
                  clear hw
                  clear hz hx
                  go_upto_region 25 with (first
                | (go_at_call 24; (with_reducible refine (HCH.out _ HA1.out.ca.gt (HA1.out.arg HAr.out)).mono ?_); rintro e w1 ⟨p1, k1, rfl, hm, ht, hg, hb⟩; have HX1 := Lib.hid (HA1.out.change rfl HAr.out HL70.out hm ht hg hb); obtain ⟨z0, z1, z2, z3, z4⟩ := HX1.out.cells; clear hm ht hg hb)
                | (go_at_call 12; (with_reducible refine (HPL.out _ _ (HX1.out.arg HAr.out)).mono ?_); rintro e w2 ⟨sl2, rfl, ht2, hb⟩; have HT2 := Lib.hid ht2; have HX2 := Lib.hid (HX1.out.below hb); obtain ⟨v0, v1', v2, v3, v4⟩ := HX2.out.cells; clear hb ht2)
                | (go_at_call 11; (with_reducible refine (HRC.out _ _ HT2.out).mono ?_); rintro e w3 ⟨rfl, hb⟩; have HX3 := Lib.hid (HX2.out.below hb); obtain ⟨t0, t1, t2, t3, t4⟩ := HX3.out.cells; obtain ⟨n0, n1, n2⟩ := HX3.out.now.cells; obtain ⟨nf0, nf1, nf2⟩ := (⟨HX3.out.now.frozen 0, HX3.out.now.frozen 1, HX3.out.now.frozen 2⟩ : _ ∧ _ ∧ _); obtain ⟨m0, m1, m2⟩ := HX3.out.come.cells; obtain ⟨mf0, mf1, mf2⟩ := (⟨HX3.out.come.frozen 0, HX3.out.come.frozen 1, HX3.out.come.frozen 2⟩ : _ ∧ _ ∧ _); rw [ESC.out] at m2; clear hb; have HX5 := Lib.hid (HX3.out.setCome sb sc (.slice ps ns cs))))
                  have HS0 := HX5.out.below (bRef _).drew
                  refine wp_region_held_drew (S := MX w v1.heap.size b0 c0 (.slice p n cap) wr.heap.size ⟨true, sb, sc, .slice ps ns cs, sts, sx⟩ ((P.turn sx).put sb sc (.slice p1 sts.length k1) (.slice ps ns cs) sts (turnV sb sc sts (max sx sb)).1 w1.heap.size) P.b1 P.c1 P.sn sb sc (.slice ps ns cs)) (by kernel_rfl) HS0 (fun _ => ?_)
                  refine hTake (i := 0) (k := 83) (v := .pointer (some ⟨wr.heap.size, 1, none⟩)) rfl rfl (by kernel_rfl) (by kernel_rfl) (by kernel_rfl) (fun _ _ _ h => h) (yieldsIf_val (by rfl) (by intro W; go_simp)) HS0 ?_
                  simp only [List.setIfInBounds_toArray, List.set_cons_zero, List.set_cons_succ]
                  refine hTake (i := 1) (k := 84) (v := LV sb sc (.slice ps ns cs)) rfl rfl (by kernel_rfl) (by kernel_rfl) (by kernel_rfl) (fun _ _ _ h => h) (.inl ⟨by rfl, fun W hW => by obtain ⟨q0, q1, q2, q3, q4⟩ := MX.cells hW; go_simp⟩) HS0 ?_
                  simp only [List.setIfInBounds_toArray, List.set_cons_zero, List.set_cons_succ]
                  refine hTake (i := 3) (k := 86) (v := .pointer (some ⟨wr.heap.size, 4, none⟩)) rfl rfl (by kernel_rfl) (by kernel_rfl) (by kernel_rfl) (fun _ _ _ h => h) (yieldsIf_val (by rfl) (by intro W; go_simp)) HS0 ?_
                  simp only [List.setIfInBounds_toArray, List.set_cons_zero, List.set_cons_succ]
                  refine hTake (i := 4) (k := 87) (v := .int .i64 sx) rfl rfl (by kernel_rfl) (by kernel_rfl) (by kernel_rfl) (fun _ _ _ h => h) (.inl ⟨by rfl, fun W hW => by obtain ⟨q0, q1, q2, q3, q4⟩ := MX.cells hW; go_simp⟩) HS0 ?_
                  simp only [List.setIfInBounds_toArray, List.set_cons_zero, List.set_cons_succ]
                  refine hTake (i := 5) (k := 88) (v := .pointer (some ⟨wr.heap.size, 1, none⟩)) rfl rfl (by kernel_rfl) (by kernel_rfl) (by kernel_rfl) (fun _ _ _ h => h) (yieldsIf_val (by rfl) (by intro W; go_simp)) HS0 ?_
                  simp only [List.setIfInBounds_toArray, List.set_cons_zero, List.set_cons_succ]
                  refine hTake (i := 6) (k := 89) (v := .pointer (some ⟨wr.heap.size, 1, none⟩)) rfl rfl (by kernel_rfl) (by kernel_rfl) (by kernel_rfl) (fun _ _ _ h => h) (yieldsIf_val (by rfl) (by intro W; go_simp)) HS0 ?_
                  simp only [List.setIfInBounds_toArray, List.set_cons_zero, List.set_cons_succ]
                  refine hTake (i := 7) (k := 90) (v := .int .i64 sb) rfl rfl (by kernel_rfl) (by kernel_rfl) (by kernel_rfl) (fun _ _ _ h => h) (.inl ⟨by rfl, fun W hW => by obtain ⟨q0, q1, q2, q3, q4⟩ := MX.cells hW; go_simp⟩) HS0 ?_
                  simp only [List.setIfInBounds_toArray, List.set_cons_zero, List.set_cons_succ]
                  refine hTake (i := 8) (k := 91) (v := .int .i64 (max sx sb)) rfl rfl (by kernel_rfl) (by kernel_rfl) (by kernel_rfl) (fun _ _ _ h => h) (yieldsIf_val (by rfl) (by intro W; go_simp; split <;> omega)) HS0 ?_
                  simp only [List.setIfInBounds_toArray, List.set_cons_zero, List.set_cons_succ]
                  refine hCallX (i := 2) (k := 85) (by kernel_rfl) rfl rfl (by rfl) 12 #[LV sb sc (.slice ps ns cs)] (by intro W; go_simp) (fun v W => ∃ sl', v = LV sb sc sl' ∧ TArg W sl' sts) (fun W hW => (HPL.out W _ (MX.arg hW HAr.out)).mono fun e W' hh => by obtain ⟨sl', rfl, h2, h3⟩ := hh; exact ⟨_, rfl, MX.below hW h3, sl', rfl, h2⟩) HS0 (fun v W1 HS1 hR => ?_)
                  obtain ⟨sl9, rfl, hT9⟩ := hR
                  simp only [List.setIfInBounds_toArray, List.set_cons_zero, List.set_cons_succ]
                  refine hCall (i := 9) (k := 92) (by kernel_rfl) rfl rfl (by rfl) 25 #[LV sb sc sl9, .int .i64 (max sx sb)] (by intro W; go_simp) (.int .i64 (turnV sb sc sts (max sx sb)).1) (fun W hW => (HTU.out sl9 W).mono fun e W' hh => ⟨hh.1, MX.below hW hh.2⟩) HS1 (fun W2 HS2 => ?_)
                  simp only [List.setIfInBounds_toArray, List.set_cons_zero, List.set_cons_succ]
                  refine hTake (i := 10) (k := 8) (v := .int .i64 (turnV sb sc sts (max sx sb)).1) rfl rfl (by kernel_rfl) (by kernel_rfl) (by kernel_rfl) (fun _ _ _ h => h) (yieldsIf_val (by rfl) (by intro W; go_simp)) HS2 ?_
                  simp only [List.setIfInBounds_toArray, List.set_cons_zero, List.set_cons_succ]
                  refine wpAnyH_done (by kernel_rfl) ?_ _
                  go_wp2_with fail
                  go_meet
                  refine ⟨((P.turn sx).put sb sc (.slice p1 sts.length k1) (.slice ps ns cs) sts (turnV sb sc sts (max sx sb)).1 w1.heap.size), rfl, rfl, MX.mc ?_⟩
                  rw [CP.turn_no HD.out] at HS2 ⊢
                  exact HS2
            · have HCH := Lib.hid (fun W (h : TArg W (.slice ps ns cs) sts) => change_bad (k := v1.heap.size) sb sc (.slice ps ns cs) sts sx W h hz)
              have e1 : (chkV sb sc sts == 0) = false := by rw [beq_eq_false_iff_ne]; exact hz
              have e2 : (chkV sb sc sts != chkV sb sc sts) = false := by simp
              generalize chkV sb sc sts = z at *
              clear hz
              go_wp2_with (first
              | (go_at_call 24; (with_reducible refine (HCH.out _ (HA1.out.arg HAr.out)).mono ?_); rintro e w1 ⟨rfl, hb⟩; have HA2 := Lib.hid (HA1.out.below hb); obtain ⟨z0, z1, z2, z3, z4⟩ := HA2.out.cells; clear hb)
              | (go_at_call 12; (with_reducible refine (HPL.out _ _ (HA2.out.arg HAr.out)).mono ?_); rintro e w2 ⟨sl2, rfl, ht2, hb⟩; have HT2 := Lib.hid ht2; have HA3 := Lib.hid (HA2.out.below hb); obtain ⟨v0, v1', v2, v3, v4⟩ := HA3.out.cells; clear hb ht2)
              | (go_at_call 11; (with_reducible refine (HRC.out _ _ HT2.out).mono ?_); rintro e w3 ⟨rfl, hb⟩; have HA4 := Lib.hid (HA3.out.below hb); obtain ⟨t0, t1, t2, t3, t4⟩ := HA4.out.cells; clear hb))
              go_meet
              exact ⟨P, rfl, rfl, HA4.out⟩
        case rest =>
          obtain ⟨P2, rfl, rfl, hM⟩ := hcut
          clear y0 y1 y2 y3 y4 HA1 HPL HRC
          obtain ⟨y0, y1, y2, y3, y4⟩ := hM.cells
          obtain ⟨Q, hQ⟩ : ∃ Q, Q = P2.turn sx := ⟨_, rfl⟩
          have hfr : P2.fr = Q.fr := by rw [hQ]; unfold CP.turn; split <;> rfl
          have HQg : Hid (Q.g = P2.g.turn sx) := Lib.hid (by rw [hQ, CP.turn_g])
          have HSl := Lib.hid hM.ca.ci.sl
          have hci := hM.ca.ci.turn sx
          rw [← hQ] at hci
          obtain ⟨n1, hn1⟩ : ∃ n1, Q.ts1.length = n1 := ⟨_, rfl⟩
          have HN1 := Lib.hid hn1
          have hl1 : n1 ≤ 70 := by rw [← hn1]; exact hci.l1
          clear hn1
          obtain ⟨pc, cc, esc⟩ := hM.ca.ci.ac.slice
          obtain ⟨m0, m1, m2⟩ := hM.ca.come.cells
          obtain ⟨n0, nn1, n2⟩ := hM.ca.now.cells
          obtain ⟨nf0, nf1, nf2⟩ := (⟨hM.ca.now.frozen 0, hM.ca.now.frozen 1, hM.ca.now.frozen 2⟩ : _ ∧ _ ∧ _)
          by_cases hw : P2.wt = true
          · by_cases hf : P2.fr ≤ sx
            · have hD : P2.isDue sx := ⟨hw, hf⟩
              have hQ' := CP.turn_yes hD
              rw [← hQ] at hQ'
              have e3 : decide (Q.fr ≤ sx) = true := decide_eq_true (by rw [← hfr]; exact hf)
              have HW : Hid (Q.wt = false) := Lib.hid (by rw [hQ'])
              obtain ⟨q1, q2, q3, q4, q5, q6⟩ : P2.b2 = Q.b1 ∧ P2.c2 = Q.c1 ∧ P2.sc = Q.sn ∧ P2.b2 = Q.b2 ∧ P2.c2 = Q.c2 ∧ P2.sc = Q.sc := by rw [hQ']; exact ⟨rfl, rfl, rfl, rfl, rfl, rfl⟩
              rw [hw, hfr]
              have hne : ¬ v1.heap.size + 1 = wr.heap.size := by have := hM.rk; omega
              have hset := hM.ca
              have HCI : Hid (CI w v1.heap.size Q (((wc.setCell ⟨v1.heap.size + 1, 0, none⟩ (.int .i64 P2.b2)).setCell ⟨v1.heap.size + 1, 1, none⟩ (.int .i64 P2.c2)).setCell ⟨v1.heap.size + 1, 2, none⟩ P2.sc)) := Lib.hid (hci.but (set3_but _ _ _) (by omega))
              have HGT : Hid (GT (((wc.setCell ⟨v1.heap.size + 1, 0, none⟩ (.int .i64 P2.b2)).setCell ⟨v1.heap.size + 1, 1, none⟩ (.int .i64 P2.c2)).setCell ⟨v1.heap.size + 1, 2, none⟩ P2.sc) v1.heap.size P2.g) := Lib.hid ((set3_off _ _ _ (by omega)).trans hset.gt)
              have HNow : Hid (LB (((wc.setCell ⟨v1.heap.size + 1, 0, none⟩ (.int .i64 P2.b2)).setCell ⟨v1.heap.size + 1, 1, none⟩ (.int .i64 P2.c2)).setCell ⟨v1.heap.size + 1, 2, none⟩ P2.sc) (v1.heap.size + 1) Q.b1 Q.c1 Q.sn) := Lib.hid (by rw [← q1, ← q2, ← q3]; exact set3_row hset.now _ _ _)
              have HCom : Hid (LB (((wc.setCell ⟨v1.heap.size + 1, 0, none⟩ (.int .i64 P2.b2)).setCell ⟨v1.heap.size + 1, 1, none⟩ (.int .i64 P2.c2)).setCell ⟨v1.heap.size + 1, 2, none⟩ P2.sc) (v1.heap.size + 1 + 1) Q.b2 Q.c2 Q.sc) := Lib.hid (by rw [← q4, ← q5, ← q6]; exact (set3_off _ _ _ (by omega)).trans hset.come)
              have HFi : Hid (LB (((wc.setCell ⟨v1.heap.size + 1, 0, none⟩ (.int .i64 P2.b2)).setCell ⟨v1.heap.size + 1, 1, none⟩ (.int .i64 P2.c2)).setCell ⟨v1.heap.size + 1, 2, none⟩ P2.sc) w.heap.size b0 c0 (.slice p n cap)) := Lib.hid ((set3_off _ _ _ (by have := hset.ci.kk; omega)).trans hset.first)
              have y4' : (((wc.setCell ⟨v1.heap.size + 1, 0, none⟩ (.int .i64 P2.b2)).setCell ⟨v1.heap.size + 1, 1, none⟩ (.int .i64 P2.c2)).setCell ⟨v1.heap.size + 1, 2, none⟩ P2.sc).cell? ⟨wr.heap.size, 4, none⟩ = some (.int .i64 sx) := (cell_block (set3_off _ _ _ (by omega))).trans y4
              rw [esc] at HCI HGT HNow HCom HFi m2 y4'
              clear hM hset hci hQ hQ' hw hf hD esc q1 q2 q3 q4 q5 q6 hfr
              go_upto_region 31 with (go_at_call 26; (with_reducible refine ((HCI.out.at HGT.out HSl.out HQg.out HN1.out)).mono ?_); rintro e w5 ⟨p1, cp1, rfl, hm, ht, hg, hb⟩; have H31 := Lib.hid (S31.init HCI.out hg hb HNow.out HCom.out HFi.out hm ht); clear hm ht hg hb)
              have HS0 := H31.out.below (bRef _).drew
              refine wp_region_held_drew (S := S31 w v1.heap.size b0 c0 (.slice p n cap) Q (((wc.setCell ⟨v1.heap.size + 1, 0, none⟩ (.int .i64 P2.b2)).setCell ⟨v1.heap.size + 1, 1, none⟩ (.int .i64 P2.c2)).setCell ⟨v1.heap.size + 1, 2, none⟩ (.slice pc P2.ts2.length cc)) w5.heap.size p1 n1 cp1) (by kernel_rfl) HS0 (fun _ => ?_)
              refine hTake (i := 0) (k := 105) (v := LV Q.b1 Q.c1 (.slice p1 n1 cp1)) rfl rfl (by kernel_rfl) (by kernel_rfl) (by kernel_rfl) (fun _ _ _ h => h) (.inl ⟨by rfl, fun W hW => by obtain ⟨l0, l1, l2⟩ := S31.lcells hW; obtain ⟨n0, nn1, n2⟩ := S31.ncells hW; obtain ⟨c0, c1, c2⟩ := S31.ccells hW; have gw := S31.gw hW; rw [HW.out] at gw; go_simp⟩) HS0 ?_
              simp only [List.setIfInBounds_toArray, List.set_cons_zero, List.set_cons_succ]
              refine hTake (i := 1) (k := 106) (v := LV Q.b1 Q.c1 Q.sn) rfl rfl (by kernel_rfl) (by kernel_rfl) (by kernel_rfl) (fun _ _ _ h => h) (.inl ⟨by rfl, fun W hW => by obtain ⟨l0, l1, l2⟩ := S31.lcells hW; obtain ⟨n0, nn1, n2⟩ := S31.ncells hW; obtain ⟨c0, c1, c2⟩ := S31.ccells hW; have gw := S31.gw hW; rw [HW.out] at gw; go_simp⟩) HS0 ?_
              simp only [List.setIfInBounds_toArray, List.set_cons_zero, List.set_cons_succ]
              refine hCall (i := 2) (k := 107) (by kernel_rfl) rfl rfl (by rfl) 27 #[LV Q.b1 Q.c1 (.slice p1 n1 cp1), LV Q.b1 Q.c1 Q.sn] (by intro W; go_simp) (.bool true) (fun W hW => S31.same1 hW) HS0 (fun W1 H1r => ?_)
              simp only [List.setIfInBounds_toArray, List.set_cons_zero, List.set_cons_succ]
              refine hTake (i := 3) (k := 108) (v := .bool false) rfl rfl (by kernel_rfl) (by kernel_rfl) (by kernel_rfl) (fun _ _ _ h => h) (yieldsIf_val (by rfl) (by intro W; go_simp)) H1r ?_
              simp only [List.setIfInBounds_toArray, List.set_cons_zero, List.set_cons_succ]
              refine hTake (i := 4) (k := 109) (v := .bool false) rfl rfl (by kernel_rfl) (by kernel_rfl) (by kernel_rfl) (fun _ _ _ h => h) (yieldsIf_val (by rfl) (by intro W; go_simp)) H1r ?_
              simp only [List.setIfInBounds_toArray, List.set_cons_zero, List.set_cons_succ]
              refine hTake (i := 5) (k := 110) (v := .pointer (some ⟨v1.heap.size, 0, none⟩)) rfl rfl (by kernel_rfl) (by kernel_rfl) (by kernel_rfl) (fun _ _ _ h => h) (yieldsIf_val (by rfl) (by intro W; go_simp)) H1r ?_
              simp only [List.setIfInBounds_toArray, List.set_cons_zero, List.set_cons_succ]
              refine hTake (i := 6) (k := 111) (v := .pointer (some ⟨v1.heap.size, 0, none⟩)) rfl rfl (by kernel_rfl) (by kernel_rfl) (by kernel_rfl) (fun _ _ _ h => h) (yieldsIf_val (by rfl) (by intro W; go_simp)) H1r ?_
              simp only [List.setIfInBounds_toArray, List.set_cons_zero, List.set_cons_succ]
              refine hTake (i := 7) (k := 112) (v := .pointer (some ⟨v1.heap.size, 7, none⟩)) rfl rfl (by kernel_rfl) (by kernel_rfl) (by kernel_rfl) (fun _ _ _ h => h) (yieldsIf_val (by rfl) (by intro W; go_simp)) H1r ?_
              simp only [List.setIfInBounds_toArray, List.set_cons_zero, List.set_cons_succ]
              refine hTake (i := 8) (k := 113) (v := .bool false) rfl rfl (by kernel_rfl) (by kernel_rfl) (by kernel_rfl) (fun _ _ _ h => h) (.inl ⟨by rfl, fun W hW => by obtain ⟨l0, l1, l2⟩ := S31.lcells hW; obtain ⟨n0, nn1, n2⟩ := S31.ncells hW; obtain ⟨c0, c1, c2⟩ := S31.ccells hW; have gw := S31.gw hW; rw [HW.out] at gw; go_simp⟩) H1r ?_
              simp only [List.setIfInBounds_toArray, List.set_cons_zero, List.set_cons_succ]
              refine hTake (i := 9) (k := 114) (v := .bool false) rfl rfl (by kernel_rfl) (by kernel_rfl) (by kernel_rfl) (fun _ _ _ h => h) (yieldsIf_val (by rfl) (by intro W; go_simp)) H1r ?_
              simp only [List.setIfInBounds_toArray, List.set_cons_zero, List.set_cons_succ]
              refine hTake (i := 10) (k := 115) (v := .bool false) rfl rfl (by kernel_rfl) (by kernel_rfl) (by kernel_rfl) (fun _ _ _ h => h) (yieldsIf_val (by rfl) (by intro W; go_simp)) H1r ?_
              simp only [List.setIfInBounds_toArray, List.set_cons_zero, List.set_cons_succ]
              refine hTake (i := 11) (k := 116) (v := .bool false) rfl rfl (by kernel_rfl) (by kernel_rfl) (by kernel_rfl) (fun _ _ _ h => h) (yieldsIf_val (by rfl) (by intro W; go_simp)) H1r ?_
              simp only [List.setIfInBounds_toArray, List.set_cons_zero, List.set_cons_succ]
              refine hTake (i := 12) (k := 117) (v := .bool false) rfl rfl (by kernel_rfl) (by kernel_rfl) (by kernel_rfl) (fun _ _ _ h => h) (yieldsIf_val (by rfl) (by intro W; go_simp)) H1r ?_
              simp only [List.setIfInBounds_toArray, List.set_cons_zero, List.set_cons_succ]
              refine hTake (i := 13) (k := 118) (v := .bool false) rfl rfl (by kernel_rfl) (by kernel_rfl) (by kernel_rfl) (fun _ _ _ h => h) (yieldsIf_val (by rfl) (by intro W; go_simp)) H1r ?_
              simp only [List.setIfInBounds_toArray, List.set_cons_zero, List.set_cons_succ]
              refine hTake (i := 14) (k := 119) (v := .bool false) rfl rfl (by kernel_rfl) (by kernel_rfl) (by kernel_rfl) (fun _ _ _ h => h) (yieldsIf_val (by rfl) (by intro W; go_simp)) H1r ?_
              simp only [List.setIfInBounds_toArray, List.set_cons_zero, List.set_cons_succ]
              refine hTake (i := 15) (k := 120) (v := undef) rfl rfl (by kernel_rfl) (by kernel_rfl) (by kernel_rfl) (fun _ _ _ h => h) (yieldsIf_skip (by rfl)) H1r ?_
              simp only [List.setIfInBounds_toArray, List.set_cons_zero, List.set_cons_succ]
              refine hTake (i := 16) (k := 121) (v := undef) rfl rfl (by kernel_rfl) (by kernel_rfl) (by kernel_rfl) (fun _ _ _ h => h) (yieldsIf_skip (by rfl)) H1r ?_
              simp only [List.setIfInBounds_toArray, List.set_cons_zero, List.set_cons_succ]
              refine hTake (i := 17) (k := 122) (v := undef) rfl rfl (by kernel_rfl) (by kernel_rfl) (by kernel_rfl) (fun _ _ _ h => h) (yieldsIf_skip (by rfl)) H1r ?_
              simp only [List.setIfInBounds_toArray, List.set_cons_zero, List.set_cons_succ]
              refine hTake (i := 18) (k := 123) (v := undef) rfl rfl (by kernel_rfl) (by kernel_rfl) (by kernel_rfl) (fun _ _ _ h => h) (yieldsIf_skip (by rfl)) H1r ?_
              simp only [List.setIfInBounds_toArray, List.set_cons_zero, List.set_cons_succ]
              refine hTake (i := 19) (k := 124) (v := undef) rfl rfl (by kernel_rfl) (by kernel_rfl) (by kernel_rfl) (fun _ _ _ h => h) (yieldsIf_skip (by rfl)) H1r ?_
              simp only [List.setIfInBounds_toArray, List.set_cons_zero, List.set_cons_succ]
              refine hTake (i := 20) (k := 125) (v := undef) rfl rfl (by kernel_rfl) (by kernel_rfl) (by kernel_rfl) (fun _ _ _ h => h) (yieldsIf_skip (by rfl)) H1r ?_
              simp only [List.setIfInBounds_toArray, List.set_cons_zero, List.set_cons_succ]
              refine hTake (i := 21) (k := 126) (v := undef) rfl rfl (by kernel_rfl) (by kernel_rfl) (by kernel_rfl) (fun _ _ _ h => h) (yieldsIf_skip (by rfl)) H1r ?_
              simp only [List.setIfInBounds_toArray, List.set_cons_zero, List.set_cons_succ]
              refine hTake (i := 22) (k := 127) (v := undef) rfl rfl (by kernel_rfl) (by kernel_rfl) (by kernel_rfl) (fun _ _ _ h => h) (yieldsIf_skip (by rfl)) H1r ?_
              simp only [List.setIfInBounds_toArray, List.set_cons_zero, List.set_cons_succ]
              refine hTake (i := 23) (k := 128) (v := undef) rfl rfl (by kernel_rfl) (by kernel_rfl) (by kernel_rfl) (fun _ _ _ h => h) (yieldsIf_skip (by rfl)) H1r ?_
              simp only [List.setIfInBounds_toArray, List.set_cons_zero, List.set_cons_succ]
              refine hTake (i := 24) (k := 129) (v := undef) rfl rfl (by kernel_rfl) (by kernel_rfl) (by kernel_rfl) (fun _ _ _ h => h) (yieldsIf_skip (by rfl)) H1r ?_
              simp only [List.setIfInBounds_toArray, List.set_cons_zero, List.set_cons_succ]
              refine hTake (i := 25) (k := 130) (v := undef) rfl rfl (by kernel_rfl) (by kernel_rfl) (by kernel_rfl) (fun _ _ _ h => h) (yieldsIf_skip (by rfl)) H1r ?_
              simp only [List.setIfInBounds_toArray, List.set_cons_zero, List.set_cons_succ]
              refine hTake (i := 26) (k := 131) (v := undef) rfl rfl (by kernel_rfl) (by kernel_rfl) (by kernel_rfl) (fun _ _ _ h => h) (yieldsIf_skip (by rfl)) H1r ?_
              simp only [List.setIfInBounds_toArray, List.set_cons_zero, List.set_cons_succ]
              refine hTake (i := 27) (k := 132) (v := undef) rfl rfl (by kernel_rfl) (by kernel_rfl) (by kernel_rfl) (fun _ _ _ h => h) (yieldsIf_skip (by rfl)) H1r ?_
              simp only [List.setIfInBounds_toArray, List.set_cons_zero, List.set_cons_succ]
              refine hTake (i := 28) (k := 133) (v := undef) rfl rfl (by kernel_rfl) (by kernel_rfl) (by kernel_rfl) (fun _ _ _ h => h) (yieldsIf_skip (by rfl)) H1r ?_
              simp only [List.setIfInBounds_toArray, List.set_cons_zero, List.set_cons_succ]
              refine hTake (i := 29) (k := 134) (v := undef) rfl rfl (by kernel_rfl) (by kernel_rfl) (by kernel_rfl) (fun _ _ _ h => h) (yieldsIf_skip (by rfl)) H1r ?_
              simp only [List.setIfInBounds_toArray, List.set_cons_zero, List.set_cons_succ]
              refine hTake (i := 30) (k := 135) (v := .bool false) rfl rfl (by kernel_rfl) (by kernel_rfl) (by kernel_rfl) (fun _ _ _ h => h) (yieldsIf_val (by rfl) (by intro W; go_simp)) H1r ?_
              simp only [List.setIfInBounds_toArray, List.set_cons_zero, List.set_cons_succ]
              refine hTake (i := 31) (k := 136) (v := .bool false) rfl rfl (by kernel_rfl) (by kernel_rfl) (by kernel_rfl) (fun _ _ _ h => h) (yieldsIf_val (by rfl) (by intro W; go_simp)) H1r ?_
              simp only [List.setIfInBounds_toArray, List.set_cons_zero, List.set_cons_succ]
              refine wpAnyH_done (by kernel_rfl) ?_ _
              have HE := Lib.hid H1r
              obtain ⟨l0, l1, l2⟩ := S31.lcells H1r
              go_wp2_with fail
              go_loopw [140] (fun kv wi => InRel w v1.heap.size b0 c0 (.slice p n cap) Q (((wc.setCell ⟨v1.heap.size + 1, 0, none⟩ (.int .i64 P2.b2)).setCell ⟨v1.heap.size + 1, 1, none⟩ (.int .i64 P2.c2)).setCell ⟨v1.heap.size + 1, 2, none⟩ (.slice pc P2.ts2.length cc)) w5.heap.size p1 n1 cp1 kv wi) (fun kv _ => n1 - (intOf kv).toNat)
              case atStart => exact ⟨0, by omega, rfl, HE.out.ca, HE.out.lx, HE.out.mine⟩
              case round =>
                clear l0 l1 l2
                obtain ⟨i, hi, rfl, hca, hlx, hmi⟩ := hrel
                obtain ⟨l0, l1, l2⟩ := hlx.cells
                rcases Nat.lt_or_ge i n1 with gi | gi
                · have hd3 : decide ((i : Int) < (n1 : Int)) = true := decide_eq_true (by omega)
                  obtain ⟨gb, hp1, ⟨z, hz⟩, hfz, hcp, hw⟩ := in_write hca hlx hmi HE.out.nb HE.out.gl gi
                  have HWr := Lib.hid hw
                  subst hp1
                  have HCP := Lib.hid hcp
                  have hne : ¬ w5.heap.size = gb := by
                    have := HE.out.gl (by omega) gb rfl
                    omega
                  clear hw hca hlx hmi hcp
                  go_wp2_with fail
                  go_roundw
                  case rel => exact ⟨i + 1, by omega, by go_num, (HWr.out _).1, (HWr.out _).2.1, (HWr.out _).2.2⟩
                  case measure => simp [intOf]; omega
                · obtain rfl : i = n1 := by omega
                  have hd3 : decide ((i : Int) < (i : Int)) = false := decide_eq_false (by omega)
                  have HCA := Lib.hid hca
                  clear hca hlx hmi
                  go_wp2_with fail
                  go_roundw
                  case rel => exact ⟨j + 1, by omega, by go_num, Q, rfl, by rw [HW.out], HCA.out⟩
                  case measure => simp [intOf]; omega
            · have hD : ¬ P2.isDue sx := fun k => hf k.2
              have hQ' := CP.turn_no hD
              rw [← hQ] at hQ'
              have e3 : decide (Q.fr ≤ sx) = false := decide_eq_false (by rw [← hfr]; exact hf)
              have HW : Hid (Q.wt = true) := Lib.hid (by rw [hQ']; exact hw)
              obtain ⟨q1, q2, q3, q4, q5, q6⟩ : P2.b1 = Q.b1 ∧ P2.c1 = Q.c1 ∧ P2.sn = Q.sn ∧ P2.b2 = Q.b2 ∧ P2.c2 = Q.c2 ∧ P2.sc = Q.sc := by rw [hQ']; exact ⟨rfl, rfl, rfl, rfl, rfl, rfl⟩
              rw [hw, hfr]
              have HCI := Lib.hid hci
              have HGT := Lib.hid hM.ca.gt
              have HNow : Hid (LB wc (v1.heap.size + 1) Q.b1 Q.c1 Q.sn) := Lib.hid (by rw [← q1, ← q2, ← q3]; exact hM.ca.now)
              have HCom : Hid (LB wc (v1.heap.size + 1 + 1) Q.b2 Q.c2 Q.sc) := Lib.hid (by rw [← q4, ← q5, ← q6]; exact hM.ca.come)
              have HFi := Lib.hid hM.ca.first
              clear hM hci hQ hQ' hw hf hD esc q1 q2 q3 q4 q5 q6 hfr
              go_upto_region 31 with (go_at_call 26; (with_reducible refine ((HCI.out.at HGT.out HSl.out HQg.out HN1.out)).mono ?_); rintro e w5 ⟨p1, cp1, rfl, hm, ht, hg, hb⟩; have H31 := Lib.hid (S31.init HCI.out hg hb HNow.out HCom.out HFi.out hm ht); clear hm ht hg hb)
              have HS0 := H31.out.below (bRef _).drew
              refine wp_region_held_drew (S := S31 w v1.heap.size b0 c0 (.slice p n cap) Q wc w5.heap.size p1 n1 cp1) (by kernel_rfl) HS0 (fun _ => ?_)
              refine hTake (i := 0) (k := 105) (v := LV Q.b1 Q.c1 (.slice p1 n1 cp1)) rfl rfl (by kernel_rfl) (by kernel_rfl) (by kernel_rfl) (fun _ _ _ h => h) (.inl ⟨by rfl, fun W hW => by obtain ⟨l0, l1, l2⟩ := S31.lcells hW; obtain ⟨n0, nn1, n2⟩ := S31.ncells hW; obtain ⟨c0, c1, c2⟩ := S31.ccells hW; have gw := S31.gw hW; rw [HW.out] at gw; obtain ⟨g6, g3, g4, g5⟩ := S31.gadm hW HW.out; go_simp⟩) HS0 ?_
              simp only [List.setIfInBounds_toArray, List.set_cons_zero, List.set_cons_succ]
              refine hTake (i := 1) (k := 106) (v := LV Q.b1 Q.c1 Q.sn) rfl rfl (by kernel_rfl) (by kernel_rfl) (by kernel_rfl) (fun _ _ _ h => h) (.inl ⟨by rfl, fun W hW => by obtain ⟨l0, l1, l2⟩ := S31.lcells hW; obtain ⟨n0, nn1, n2⟩ := S31.ncells hW; obtain ⟨c0, c1, c2⟩ := S31.ccells hW; have gw := S31.gw hW; rw [HW.out] at gw; obtain ⟨g6, g3, g4, g5⟩ := S31.gadm hW HW.out; go_simp⟩) HS0 ?_
              simp only [List.setIfInBounds_toArray, List.set_cons_zero, List.set_cons_succ]
              refine hCall (i := 2) (k := 107) (by kernel_rfl) rfl rfl (by rfl) 27 #[LV Q.b1 Q.c1 (.slice p1 n1 cp1), LV Q.b1 Q.c1 Q.sn] (by intro W; go_simp) (.bool true) (fun W hW => S31.same1 hW) HS0 (fun W1 H1r => ?_)
              simp only [List.setIfInBounds_toArray, List.set_cons_zero, List.set_cons_succ]
              refine hTake (i := 3) (k := 108) (v := .bool false) rfl rfl (by kernel_rfl) (by kernel_rfl) (by kernel_rfl) (fun _ _ _ h => h) (yieldsIf_val (by rfl) (by intro W; go_simp)) H1r ?_
              simp only [List.setIfInBounds_toArray, List.set_cons_zero, List.set_cons_succ]
              refine hTake (i := 4) (k := 109) (v := .bool false) rfl rfl (by kernel_rfl) (by kernel_rfl) (by kernel_rfl) (fun _ _ _ h => h) (yieldsIf_val (by rfl) (by intro W; go_simp)) H1r ?_
              simp only [List.setIfInBounds_toArray, List.set_cons_zero, List.set_cons_succ]
              refine hTake (i := 5) (k := 110) (v := .pointer (some ⟨v1.heap.size, 0, none⟩)) rfl rfl (by kernel_rfl) (by kernel_rfl) (by kernel_rfl) (fun _ _ _ h => h) (yieldsIf_val (by rfl) (by intro W; go_simp)) H1r ?_
              simp only [List.setIfInBounds_toArray, List.set_cons_zero, List.set_cons_succ]
              refine hTake (i := 6) (k := 111) (v := .pointer (some ⟨v1.heap.size, 0, none⟩)) rfl rfl (by kernel_rfl) (by kernel_rfl) (by kernel_rfl) (fun _ _ _ h => h) (yieldsIf_val (by rfl) (by intro W; go_simp)) H1r ?_
              simp only [List.setIfInBounds_toArray, List.set_cons_zero, List.set_cons_succ]
              refine hTake (i := 7) (k := 112) (v := .pointer (some ⟨v1.heap.size, 7, none⟩)) rfl rfl (by kernel_rfl) (by kernel_rfl) (by kernel_rfl) (fun _ _ _ h => h) (yieldsIf_val (by rfl) (by intro W; go_simp)) H1r ?_
              simp only [List.setIfInBounds_toArray, List.set_cons_zero, List.set_cons_succ]
              refine hTake (i := 8) (k := 113) (v := .bool true) rfl rfl (by kernel_rfl) (by kernel_rfl) (by kernel_rfl) (fun _ _ _ h => h) (.inl ⟨by rfl, fun W hW => by obtain ⟨l0, l1, l2⟩ := S31.lcells hW; obtain ⟨n0, nn1, n2⟩ := S31.ncells hW; obtain ⟨c0, c1, c2⟩ := S31.ccells hW; have gw := S31.gw hW; rw [HW.out] at gw; obtain ⟨g6, g3, g4, g5⟩ := S31.gadm hW HW.out; go_simp⟩) H1r ?_
              simp only [List.setIfInBounds_toArray, List.set_cons_zero, List.set_cons_succ]
              refine hTake (i := 9) (k := 114) (v := .bool true) rfl rfl (by kernel_rfl) (by kernel_rfl) (by kernel_rfl) (fun _ _ _ h => h) (yieldsIf_val (by rfl) (by intro W; go_simp)) H1r ?_
              simp only [List.setIfInBounds_toArray, List.set_cons_zero, List.set_cons_succ]
              refine hTake (i := 10) (k := 115) (v := .bool false) rfl rfl (by kernel_rfl) (by kernel_rfl) (by kernel_rfl) (fun _ _ _ h => h) (yieldsIf_val (by rfl) (by intro W; go_simp)) H1r ?_
              simp only [List.setIfInBounds_toArray, List.set_cons_zero, List.set_cons_succ]
              refine hTake (i := 11) (k := 116) (v := .bool false) rfl rfl (by kernel_rfl) (by kernel_rfl) (by kernel_rfl) (fun _ _ _ h => h) (yieldsIf_val (by rfl) (by intro W; go_simp)) H1r ?_
              simp only [List.setIfInBounds_toArray, List.set_cons_zero, List.set_cons_succ]
              refine hTake (i := 12) (k := 117) (v := .bool false) rfl rfl (by kernel_rfl) (by kernel_rfl) (by kernel_rfl) (fun _ _ _ h => h) (yieldsIf_val (by rfl) (by intro W; go_simp)) H1r ?_
              simp only [List.setIfInBounds_toArray, List.set_cons_zero, List.set_cons_succ]
              refine hTake (i := 13) (k := 118) (v := .bool true) rfl rfl (by kernel_rfl) (by kernel_rfl) (by kernel_rfl) (fun _ _ _ h => h) (yieldsIf_val (by rfl) (by intro W; go_simp)) H1r ?_
              simp only [List.setIfInBounds_toArray, List.set_cons_zero, List.set_cons_succ]
              refine hTake (i := 14) (k := 119) (v := .bool true) rfl rfl (by kernel_rfl) (by kernel_rfl) (by kernel_rfl) (fun _ _ _ h => h) (yieldsIf_val (by rfl) (by intro W; go_simp)) H1r ?_
              simp only [List.setIfInBounds_toArray, List.set_cons_zero, List.set_cons_succ]
              refine hTake (i := 15) (k := 120) (v := .pointer (some ⟨v1.heap.size, 0, none⟩)) rfl rfl (by kernel_rfl) (by kernel_rfl) (by kernel_rfl) (fun _ _ _ h => h) (yieldsIf_val (by rfl) (by intro W; go_simp)) H1r ?_
              simp only [List.setIfInBounds_toArray, List.set_cons_zero, List.set_cons_succ]
              refine hTake (i := 16) (k := 121) (v := .pointer (some ⟨v1.heap.size, 0, none⟩)) rfl rfl (by kernel_rfl) (by kernel_rfl) (by kernel_rfl) (fun _ _ _ h => h) (yieldsIf_val (by rfl) (by intro W; go_simp)) H1r ?_
              simp only [List.setIfInBounds_toArray, List.set_cons_zero, List.set_cons_succ]
              refine hTake (i := 17) (k := 122) (v := .pointer (some ⟨v1.heap.size, 6, none⟩)) rfl rfl (by kernel_rfl) (by kernel_rfl) (by kernel_rfl) (fun _ _ _ h => h) (yieldsIf_val (by rfl) (by intro W; go_simp)) H1r ?_
              simp only [List.setIfInBounds_toArray, List.set_cons_zero, List.set_cons_succ]
              refine hTake (i := 18) (k := 123) (v := .int .i64 Q.fr) rfl rfl (by kernel_rfl) (by kernel_rfl) (by kernel_rfl) (fun _ _ _ h => h) (.inl ⟨by rfl, fun W hW => by obtain ⟨l0, l1, l2⟩ := S31.lcells hW; obtain ⟨n0, nn1, n2⟩ := S31.ncells hW; obtain ⟨c0, c1, c2⟩ := S31.ccells hW; have gw := S31.gw hW; rw [HW.out] at gw; obtain ⟨g6, g3, g4, g5⟩ := S31.gadm hW HW.out; go_simp⟩) H1r ?_
              simp only [List.setIfInBounds_toArray, List.set_cons_zero, List.set_cons_succ]
              refine hTake (i := 19) (k := 124) (v := .int .i64 Q.fr) rfl rfl (by kernel_rfl) (by kernel_rfl) (by kernel_rfl) (fun _ _ _ h => h) (yieldsIf_val (by rfl) (by intro W; go_simp)) H1r ?_
              simp only [List.setIfInBounds_toArray, List.set_cons_zero, List.set_cons_succ]
              refine hTake (i := 20) (k := 125) (v := .bool false) rfl rfl (by kernel_rfl) (by kernel_rfl) (by kernel_rfl) (fun _ _ _ h => h) (yieldsIf_val (by rfl) (by intro W; go_simp)) H1r ?_
              simp only [List.setIfInBounds_toArray, List.set_cons_zero, List.set_cons_succ]
              refine hTake (i := 21) (k := 126) (v := .bool false) rfl rfl (by kernel_rfl) (by kernel_rfl) (by kernel_rfl) (fun _ _ _ h => h) (yieldsIf_val (by rfl) (by intro W; go_simp)) H1r ?_
              simp only [List.setIfInBounds_toArray, List.set_cons_zero, List.set_cons_succ]
              refine hTake (i := 22) (k := 127) (v := .pointer (some ⟨v1.heap.size, 0, none⟩)) rfl rfl (by kernel_rfl) (by kernel_rfl) (by kernel_rfl) (fun _ _ _ h => h) (yieldsIf_val (by rfl) (by intro W; go_simp)) H1r ?_
              simp only [List.setIfInBounds_toArray, List.set_cons_zero, List.set_cons_succ]
              refine hTake (i := 23) (k := 128) (v := .pointer (some ⟨v1.heap.size, 0, none⟩)) rfl rfl (by kernel_rfl) (by kernel_rfl) (by kernel_rfl) (fun _ _ _ h => h) (yieldsIf_val (by rfl) (by intro W; go_simp)) H1r ?_
              simp only [List.setIfInBounds_toArray, List.set_cons_zero, List.set_cons_succ]
              refine hTake (i := 24) (k := 129) (v := .pointer (some ⟨v1.heap.size, 3, none⟩)) rfl rfl (by kernel_rfl) (by kernel_rfl) (by kernel_rfl) (fun _ _ _ h => h) (yieldsIf_val (by rfl) (by intro W; go_simp)) H1r ?_
              simp only [List.setIfInBounds_toArray, List.set_cons_zero, List.set_cons_succ]
              refine hTake (i := 25) (k := 130) (v := LV Q.b2 Q.c2 Q.g.s2) rfl rfl (by kernel_rfl) (by kernel_rfl) (by kernel_rfl) (fun _ _ _ h => h) (.inl ⟨by rfl, fun W hW => by obtain ⟨l0, l1, l2⟩ := S31.lcells hW; obtain ⟨n0, nn1, n2⟩ := S31.ncells hW; obtain ⟨c0, c1, c2⟩ := S31.ccells hW; have gw := S31.gw hW; rw [HW.out] at gw; obtain ⟨g6, g3, g4, g5⟩ := S31.gadm hW HW.out; go_simp⟩) H1r ?_
              simp only [List.setIfInBounds_toArray, List.set_cons_zero, List.set_cons_succ]
              refine hTake (i := 26) (k := 131) (v := LV Q.b2 Q.c2 Q.sc) rfl rfl (by kernel_rfl) (by kernel_rfl) (by kernel_rfl) (fun _ _ _ h => h) (.inl ⟨by rfl, fun W hW => by obtain ⟨l0, l1, l2⟩ := S31.lcells hW; obtain ⟨n0, nn1, n2⟩ := S31.ncells hW; obtain ⟨c0, c1, c2⟩ := S31.ccells hW; have gw := S31.gw hW; rw [HW.out] at gw; obtain ⟨g6, g3, g4, g5⟩ := S31.gadm hW HW.out; go_simp⟩) H1r ?_
              simp only [List.setIfInBounds_toArray, List.set_cons_zero, List.set_cons_succ]
              refine hCall (i := 27) (k := 132) (by kernel_rfl) rfl rfl (by rfl) 27 #[LV Q.b2 Q.c2 Q.g.s2, LV Q.b2 Q.c2 Q.sc] (by intro W; go_simp) (.bool true) (fun W hW => S31.same2 hW HW.out) H1r (fun W2 H2r => ?_)
              simp only [List.setIfInBounds_toArray, List.set_cons_zero, List.set_cons_succ]
              refine hTake (i := 28) (k := 133) (v := .bool false) rfl rfl (by kernel_rfl) (by kernel_rfl) (by kernel_rfl) (fun _ _ _ h => h) (yieldsIf_val (by rfl) (by intro W; go_simp)) H2r ?_
              simp only [List.setIfInBounds_toArray, List.set_cons_zero, List.set_cons_succ]
              refine hTake (i := 29) (k := 134) (v := .bool false) rfl rfl (by kernel_rfl) (by kernel_rfl) (by kernel_rfl) (fun _ _ _ h => h) (yieldsIf_val (by rfl) (by intro W; go_simp)) H2r ?_
              simp only [List.setIfInBounds_toArray, List.set_cons_zero, List.set_cons_succ]
              refine hTake (i := 30) (k := 135) (v := .bool false) rfl rfl (by kernel_rfl) (by kernel_rfl) (by kernel_rfl) (fun _ _ _ h => h) (yieldsIf_val (by rfl) (by intro W; go_simp)) H2r ?_
              simp only [List.setIfInBounds_toArray, List.set_cons_zero, List.set_cons_succ]
              refine hTake (i := 31) (k := 136) (v := .bool false) rfl rfl (by kernel_rfl) (by kernel_rfl) (by kernel_rfl) (fun _ _ _ h => h) (yieldsIf_val (by rfl) (by intro W; go_simp)) H2r ?_
              simp only [List.setIfInBounds_toArray, List.set_cons_zero, List.set_cons_succ]
              refine wpAnyH_done (by kernel_rfl) ?_ _
              have HE := Lib.hid H2r
              obtain ⟨l0, l1, l2⟩ := S31.lcells H2r
              go_wp2_with fail
              go_loopw [140] (fun kv wi => InRel w v1.heap.size b0 c0 (.slice p n cap) Q wc w5.heap.size p1 n1 cp1 kv wi) (fun kv _ => n1 - (intOf kv).toNat)
              case atStart => exact ⟨0, by omega, rfl, HE.out.ca, HE.out.lx, HE.out.mine⟩
              case round =>
                clear l0 l1 l2
                obtain ⟨i, hi, rfl, hca, hlx, hmi⟩ := hrel
                obtain ⟨l0, l1, l2⟩ := hlx.cells
                rcases Nat.lt_or_ge i n1 with gi | gi
                · have hd3 : decide ((i : Int) < (n1 : Int)) = true := decide_eq_true (by omega)
                  obtain ⟨gb, hp1, ⟨z, hz⟩, hfz, hcp, hw⟩ := in_write hca hlx hmi HE.out.nb HE.out.gl gi
                  have HWr := Lib.hid hw
                  subst hp1
                  have HCP := Lib.hid hcp
                  have hne : ¬ w5.heap.size = gb := by
                    have := HE.out.gl (by omega) gb rfl
                    omega
                  clear hw hca hlx hmi hcp
                  go_wp2_with fail
                  go_roundw
                  case rel => exact ⟨i + 1, by omega, by go_num, (HWr.out _).1, (HWr.out _).2.1, (HWr.out _).2.2⟩
                  case measure => simp [intOf]; omega
                · obtain rfl : i = n1 := by omega
                  have hd3 : decide ((i : Int) < (i : Int)) = false := decide_eq_false (by omega)
                  have HCA := Lib.hid hca
                  clear hca hlx hmi
                  go_wp2_with fail
                  go_roundw
                  case rel => exact ⟨j + 1, by omega, by go_num, Q, rfl, by rw [HW.out], HCA.out⟩
                  case measure => simp [intOf]; omega
          · have hD : ¬ P2.isDue sx := fun k => hw k.1
            have hQ' := CP.turn_no hD
            rw [← hQ] at hQ'
            have HW : Hid (Q.wt = false) := Lib.hid (by rw [hQ']; simpa using hw)
            obtain ⟨q1, q2, q3, q4, q5, q6⟩ : P2.b1 = Q.b1 ∧ P2.c1 = Q.c1 ∧ P2.sn = Q.sn ∧ P2.b2 = Q.b2 ∧ P2.c2 = Q.c2 ∧ P2.sc = Q.sc := by rw [hQ']; exact ⟨rfl, rfl, rfl, rfl, rfl, rfl⟩
            rw [show P2.wt = false by simpa using hw, hfr]
            have HCI := Lib.hid hci
            have HGT := Lib.hid hM.ca.gt
            have HNow : Hid (LB wc (v1.heap.size + 1) Q.b1 Q.c1 Q.sn) := Lib.hid (by rw [← q1, ← q2, ← q3]; exact hM.ca.now)
            have HCom : Hid (LB wc (v1.heap.size + 1 + 1) Q.b2 Q.c2 Q.sc) := Lib.hid (by rw [← q4, ← q5, ← q6]; exact hM.ca.come)
            have HFi := Lib.hid hM.ca.first
            clear hM hci hQ hQ' hw hD esc q1 q2 q3 q4 q5 q6 hfr
            go_upto_region 31 with (go_at_call 26; (with_reducible refine ((HCI.out.at HGT.out HSl.out HQg.out HN1.out)).mono ?_); rintro e w5 ⟨p1, cp1, rfl, hm, ht, hg, hb⟩; have H31 := Lib.hid (S31.init HCI.out hg hb HNow.out HCom.out HFi.out hm ht); clear hm ht hg hb)
            have HS0 := H31.out.below (bRef _).drew
            refine wp_region_held_drew (S := S31 w v1.heap.size b0 c0 (.slice p n cap) Q wc w5.heap.size p1 n1 cp1) (by kernel_rfl) HS0 (fun _ => ?_)
            refine hTake (i := 0) (k := 105) (v := LV Q.b1 Q.c1 (.slice p1 n1 cp1)) rfl rfl (by kernel_rfl) (by kernel_rfl) (by kernel_rfl) (fun _ _ _ h => h) (.inl ⟨by rfl, fun W hW => by obtain ⟨l0, l1, l2⟩ := S31.lcells hW; obtain ⟨n0, nn1, n2⟩ := S31.ncells hW; obtain ⟨c0, c1, c2⟩ := S31.ccells hW; have gw := S31.gw hW; rw [HW.out] at gw; go_simp⟩) HS0 ?_
            simp only [List.setIfInBounds_toArray, List.set_cons_zero, List.set_cons_succ]
            refine hTake (i := 1) (k := 106) (v := LV Q.b1 Q.c1 Q.sn) rfl rfl (by kernel_rfl) (by kernel_rfl) (by kernel_rfl) (fun _ _ _ h => h) (.inl ⟨by rfl, fun W hW => by obtain ⟨l0, l1, l2⟩ := S31.lcells hW; obtain ⟨n0, nn1, n2⟩ := S31.ncells hW; obtain ⟨c0, c1, c2⟩ := S31.ccells hW; have gw := S31.gw hW; rw [HW.out] at gw; go_simp⟩) HS0 ?_
            simp only [List.setIfInBounds_toArray, List.set_cons_zero, List.set_cons_succ]
            refine hCall (i := 2) (k := 107) (by kernel_rfl) rfl rfl (by rfl) 27 #[LV Q.b1 Q.c1 (.slice p1 n1 cp1), LV Q.b1 Q.c1 Q.sn] (by intro W; go_simp) (.bool true) (fun W hW => S31.same1 hW) HS0 (fun W1 H1r => ?_)
            simp only [List.setIfInBounds_toArray, List.set_cons_zero, List.set_cons_succ]
            refine hTake (i := 3) (k := 108) (v := .bool false) rfl rfl (by kernel_rfl) (by kernel_rfl) (by kernel_rfl) (fun _ _ _ h => h) (yieldsIf_val (by rfl) (by intro W; go_simp)) H1r ?_
            simp only [List.setIfInBounds_toArray, List.set_cons_zero, List.set_cons_succ]
            refine hTake (i := 4) (k := 109) (v := .bool false) rfl rfl (by kernel_rfl) (by kernel_rfl) (by kernel_rfl) (fun _ _ _ h => h) (yieldsIf_val (by rfl) (by intro W; go_simp)) H1r ?_
            simp only [List.setIfInBounds_toArray, List.set_cons_zero, List.set_cons_succ]
            refine hTake (i := 5) (k := 110) (v := .pointer (some ⟨v1.heap.size, 0, none⟩)) rfl rfl (by kernel_rfl) (by kernel_rfl) (by kernel_rfl) (fun _ _ _ h => h) (yieldsIf_val (by rfl) (by intro W; go_simp)) H1r ?_
            simp only [List.setIfInBounds_toArray, List.set_cons_zero, List.set_cons_succ]
            refine hTake (i := 6) (k := 111) (v := .pointer (some ⟨v1.heap.size, 0, none⟩)) rfl rfl (by kernel_rfl) (by kernel_rfl) (by kernel_rfl) (fun _ _ _ h => h) (yieldsIf_val (by rfl) (by intro W; go_simp)) H1r ?_
            simp only [List.setIfInBounds_toArray, List.set_cons_zero, List.set_cons_succ]
            refine hTake (i := 7) (k := 112) (v := .pointer (some ⟨v1.heap.size, 7, none⟩)) rfl rfl (by kernel_rfl) (by kernel_rfl) (by kernel_rfl) (fun _ _ _ h => h) (yieldsIf_val (by rfl) (by intro W; go_simp)) H1r ?_
            simp only [List.setIfInBounds_toArray, List.set_cons_zero, List.set_cons_succ]
            refine hTake (i := 8) (k := 113) (v := .bool false) rfl rfl (by kernel_rfl) (by kernel_rfl) (by kernel_rfl) (fun _ _ _ h => h) (.inl ⟨by rfl, fun W hW => by obtain ⟨l0, l1, l2⟩ := S31.lcells hW; obtain ⟨n0, nn1, n2⟩ := S31.ncells hW; obtain ⟨c0, c1, c2⟩ := S31.ccells hW; have gw := S31.gw hW; rw [HW.out] at gw; go_simp⟩) H1r ?_
            simp only [List.setIfInBounds_toArray, List.set_cons_zero, List.set_cons_succ]
            refine hTake (i := 9) (k := 114) (v := .bool false) rfl rfl (by kernel_rfl) (by kernel_rfl) (by kernel_rfl) (fun _ _ _ h => h) (yieldsIf_val (by rfl) (by intro W; go_simp)) H1r ?_
            simp only [List.setIfInBounds_toArray, List.set_cons_zero, List.set_cons_succ]
            refine hTake (i := 10) (k := 115) (v := .bool false) rfl rfl (by kernel_rfl) (by kernel_rfl) (by kernel_rfl) (fun _ _ _ h => h) (yieldsIf_val (by rfl) (by intro W; go_simp)) H1r ?_
            simp only [List.setIfInBounds_toArray, List.set_cons_zero, List.set_cons_succ]
            refine hTake (i := 11) (k := 116) (v := .bool false) rfl rfl (by kernel_rfl) (by kernel_rfl) (by kernel_rfl) (fun _ _ _ h => h) (yieldsIf_val (by rfl) (by intro W; go_simp)) H1r ?_
            simp only [List.setIfInBounds_toArray, List.set_cons_zero, List.set_cons_succ]
            refine hTake (i := 12) (k := 117) (v := .bool false) rfl rfl (by kernel_rfl) (by kernel_rfl) (by kernel_rfl) (fun _ _ _ h => h) (yieldsIf_val (by rfl) (by intro W; go_simp)) H1r ?_
            simp only [List.setIfInBounds_toArray, List.set_cons_zero, List.set_cons_succ]
            refine hTake (i := 13) (k := 118) (v := .bool false) rfl rfl (by kernel_rfl) (by kernel_rfl) (by kernel_rfl) (fun _ _ _ h => h) (yieldsIf_val (by rfl) (by intro W; go_simp)) H1r ?_
            simp only [List.setIfInBounds_toArray, List.set_cons_zero, List.set_cons_succ]
            refine hTake (i := 14) (k := 119) (v := .bool false) rfl rfl (by kernel_rfl) (by kernel_rfl) (by kernel_rfl) (fun _ _ _ h => h) (yieldsIf_val (by rfl) (by intro W; go_simp)) H1r ?_
            simp only [List.setIfInBounds_toArray, List.set_cons_zero, List.set_cons_succ]
            refine hTake (i := 15) (k := 120) (v := undef) rfl rfl (by kernel_rfl) (by kernel_rfl) (by kernel_rfl) (fun _ _ _ h => h) (yieldsIf_skip (by rfl)) H1r ?_
            simp only [List.setIfInBounds_toArray, List.set_cons_zero, List.set_cons_succ]
            refine hTake (i := 16) (k := 121) (v := undef) rfl rfl (by kernel_rfl) (by kernel_rfl) (by kernel_rfl) (fun _ _ _ h => h) (yieldsIf_skip (by rfl)) H1r ?_
            simp only [List.setIfInBounds_toArray, List.set_cons_zero, List.set_cons_succ]
            refine hTake (i := 17) (k := 122) (v := undef) rfl rfl (by kernel_rfl) (by kernel_rfl) (by kernel_rfl) (fun _ _ _ h => h) (yieldsIf_skip (by rfl)) H1r ?_
            simp only [List.setIfInBounds_toArray, List.set_cons_zero, List.set_cons_succ]
            refine hTake (i := 18) (k := 123) (v := undef) rfl rfl (by kernel_rfl) (by kernel_rfl) (by kernel_rfl) (fun _ _ _ h => h) (yieldsIf_skip (by rfl)) H1r ?_
            simp only [List.setIfInBounds_toArray, List.set_cons_zero, List.set_cons_succ]
            refine hTake (i := 19) (k := 124) (v := undef) rfl rfl (by kernel_rfl) (by kernel_rfl) (by kernel_rfl) (fun _ _ _ h => h) (yieldsIf_skip (by rfl)) H1r ?_
            simp only [List.setIfInBounds_toArray, List.set_cons_zero, List.set_cons_succ]
            refine hTake (i := 20) (k := 125) (v := undef) rfl rfl (by kernel_rfl) (by kernel_rfl) (by kernel_rfl) (fun _ _ _ h => h) (yieldsIf_skip (by rfl)) H1r ?_
            simp only [List.setIfInBounds_toArray, List.set_cons_zero, List.set_cons_succ]
            refine hTake (i := 21) (k := 126) (v := undef) rfl rfl (by kernel_rfl) (by kernel_rfl) (by kernel_rfl) (fun _ _ _ h => h) (yieldsIf_skip (by rfl)) H1r ?_
            simp only [List.setIfInBounds_toArray, List.set_cons_zero, List.set_cons_succ]
            refine hTake (i := 22) (k := 127) (v := undef) rfl rfl (by kernel_rfl) (by kernel_rfl) (by kernel_rfl) (fun _ _ _ h => h) (yieldsIf_skip (by rfl)) H1r ?_
            simp only [List.setIfInBounds_toArray, List.set_cons_zero, List.set_cons_succ]
            refine hTake (i := 23) (k := 128) (v := undef) rfl rfl (by kernel_rfl) (by kernel_rfl) (by kernel_rfl) (fun _ _ _ h => h) (yieldsIf_skip (by rfl)) H1r ?_
            simp only [List.setIfInBounds_toArray, List.set_cons_zero, List.set_cons_succ]
            refine hTake (i := 24) (k := 129) (v := undef) rfl rfl (by kernel_rfl) (by kernel_rfl) (by kernel_rfl) (fun _ _ _ h => h) (yieldsIf_skip (by rfl)) H1r ?_
            simp only [List.setIfInBounds_toArray, List.set_cons_zero, List.set_cons_succ]
            refine hTake (i := 25) (k := 130) (v := undef) rfl rfl (by kernel_rfl) (by kernel_rfl) (by kernel_rfl) (fun _ _ _ h => h) (yieldsIf_skip (by rfl)) H1r ?_
            simp only [List.setIfInBounds_toArray, List.set_cons_zero, List.set_cons_succ]
            refine hTake (i := 26) (k := 131) (v := undef) rfl rfl (by kernel_rfl) (by kernel_rfl) (by kernel_rfl) (fun _ _ _ h => h) (yieldsIf_skip (by rfl)) H1r ?_
            simp only [List.setIfInBounds_toArray, List.set_cons_zero, List.set_cons_succ]
            refine hTake (i := 27) (k := 132) (v := undef) rfl rfl (by kernel_rfl) (by kernel_rfl) (by kernel_rfl) (fun _ _ _ h => h) (yieldsIf_skip (by rfl)) H1r ?_
            simp only [List.setIfInBounds_toArray, List.set_cons_zero, List.set_cons_succ]
            refine hTake (i := 28) (k := 133) (v := undef) rfl rfl (by kernel_rfl) (by kernel_rfl) (by kernel_rfl) (fun _ _ _ h => h) (yieldsIf_skip (by rfl)) H1r ?_
            simp only [List.setIfInBounds_toArray, List.set_cons_zero, List.set_cons_succ]
            refine hTake (i := 29) (k := 134) (v := undef) rfl rfl (by kernel_rfl) (by kernel_rfl) (by kernel_rfl) (fun _ _ _ h => h) (yieldsIf_skip (by rfl)) H1r ?_
            simp only [List.setIfInBounds_toArray, List.set_cons_zero, List.set_cons_succ]
            refine hTake (i := 30) (k := 135) (v := .bool false) rfl rfl (by kernel_rfl) (by kernel_rfl) (by kernel_rfl) (fun _ _ _ h => h) (yieldsIf_val (by rfl) (by intro W; go_simp)) H1r ?_
            simp only [List.setIfInBounds_toArray, List.set_cons_zero, List.set_cons_succ]
            refine hTake (i := 31) (k := 136) (v := .bool false) rfl rfl (by kernel_rfl) (by kernel_rfl) (by kernel_rfl) (fun _ _ _ h => h) (yieldsIf_val (by rfl) (by intro W; go_simp)) H1r ?_
            simp only [List.setIfInBounds_toArray, List.set_cons_zero, List.set_cons_succ]
            refine wpAnyH_done (by kernel_rfl) ?_ _
            have HE := Lib.hid H1r
            obtain ⟨l0, l1, l2⟩ := S31.lcells H1r
            go_wp2_with fail
            go_loopw [140] (fun kv wi => InRel w v1.heap.size b0 c0 (.slice p n cap) Q wc w5.heap.size p1 n1 cp1 kv wi) (fun kv _ => n1 - (intOf kv).toNat)
            case atStart => exact ⟨0, by omega, rfl, HE.out.ca, HE.out.lx, HE.out.mine⟩
            case round =>
              clear l0 l1 l2
              obtain ⟨i, hi, rfl, hca, hlx, hmi⟩ := hrel
              obtain ⟨l0, l1, l2⟩ := hlx.cells
              rcases Nat.lt_or_ge i n1 with gi | gi
              · have hd3 : decide ((i : Int) < (n1 : Int)) = true := decide_eq_true (by omega)
                obtain ⟨gb, hp1, ⟨z, hz⟩, hfz, hcp, hw⟩ := in_write hca hlx hmi HE.out.nb HE.out.gl gi
                have HWr := Lib.hid hw
                subst hp1
                have HCP := Lib.hid hcp
                have hne : ¬ w5.heap.size = gb := by
                  have := HE.out.gl (by omega) gb rfl
                  omega
                clear hw hca hlx hmi hcp
                go_wp2_with fail
                go_roundw
                case rel => exact ⟨i + 1, by omega, by go_num, (HWr.out _).1, (HWr.out _).2.1, (HWr.out _).2.2⟩
                case measure => simp [intOf]; omega
              · obtain rfl : i = n1 := by omega
                have hd3 : decide ((i : Int) < (i : Int)) = false := decide_eq_false (by omega)
                have HCA := Lib.hid hca
                clear hca hlx hmi
                go_wp2_with fail
                go_roundw
                case rel => exact ⟨j + 1, by omega, by go_num, Q, rfl, by rw [HW.out], HCA.out⟩
                case measure => simp [intOf]; omega
    · obtain rfl : j = m := by omega
      have hd : decide ((j : Int) < (j : Int)) = false := decide_eq_false (by omega)
      have HL := Lib.hid hA.first
      have HB := Lib.hid hA.ci.bel
      obtain ⟨l0, l1, l2⟩ := HL.out.cells
      clear hA
      have hfd : ∀ W, (Instr.field 24 (LV 0 0 (.slice none 0 0)) 2).run Try.prog W = .ok (.slice none 0 0) W := fun W => by kernel_rfl
      go_wp2_with (first
        | (go_at_call 24; (with_reducible refine (change_nil _ _ _ _ _).mono ?_); rintro e w2 ⟨rfl, hb⟩; have HB2 := Lib.hid (bTr HB.out hb); clear hb)
        | (go_at_call 26; (with_reducible refine (at_nil _ _).mono ?_); rintro e w3 ⟨rfl, hb⟩; have HB3 := Lib.hid (bTr HB2.out hb); clear hb))
      go_ret
      exact ⟨rfl, HB3.out⟩

theorem gatesChanges_holds : Rows.GatesChangesSaid := gatesChanges_of (fun b c sl ts v n w _ _ h hx => by
  obtain ⟨p, cap, rfl⟩ := h.slice
  obtain ⟨q, d, rfl⟩ := hx.slice
  by_cases hm : 64 < ts.length ∨ 40 < n
  · exact changes_many b c p q _ cap _ d w hm
  · exact changes_few b c p q _ cap _ d ts w h rfl hx (by omega) (by omega))

end Go.Proofs.Ytpdfgdjomlogbaa
