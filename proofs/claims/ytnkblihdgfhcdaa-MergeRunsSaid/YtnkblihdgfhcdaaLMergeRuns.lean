/- For every setup, every time and every row of steps MergeRuns answers true: what is taken, what is told to be silent and all counts are the reference's. No condition. -/
import Derived.Test.YtnkblihdgfhcdaaMgLoopB
import Derived.Test.YtnkblihdgfhcdaaMgLoopC
namespace Go.Proofs.Ytnkblihdgfhcdaa
open Go.RowKit Go.Joins

set_option maxRecDepth 20000 in
set_option maxHeartbeats 8000000 in
theorem mruns_ok (n : Nat) (w1 l1 r1 w2 l2 r2 every limit now : Int) (p : Option Addr) (N c : Nat) (w : World) (hN : N ≤ 100) (ho : okM (n : Int) w1 l1 r1 w2 l2 r2 every limit) (hn0 : 0 ≤ now) (hn1 : now ≤ 1099511627776) (ha : SlArg 4 Oksandglasslaw14Step w (.slice p N c) N) :
    Calls Try.prog 9 #[MV (n : Int) w1 l1 r1 w2 l2 r2 every limit, .int .i64 now, .slice p N c] w fun e w' => e = .returned (.bool true) ∧ Below w.heap.size w w' := by
  have HH := Lib.hid mhead_ret
  have HNw := Lib.hid (fun W => mnew_ok n w1 l1 r1 w2 l2 r2 every limit now W ho hn0 hn1)
  have HR := Lib.hid (fun W => mright_yes (n : Int) w1 l1 r1 w2 l2 r2 every limit W ho)
  have HRN := Lib.hid (fun W => rnew_ret w1 l1 r1 now W)
  have HRA := Lib.hid (fun W => rnew_ret w2 l2 r2 now W)
  have d : decide ((100 : Int) < (N : Int)) = false := decide_eq_false (by omega)
  have d1 : decide (now < 0) = false := decide_eq_false (by omega)
  have d2 : decide (1099511627776 < now) = false := decide_eq_false (by omega)
  have K0 := Lib.hid (MB.new w (n : Int) w1 l1 r1 w2 l2 r2 every limit)
  have HO := Lib.hid ho
  have HA := Lib.hid ha
  have HN := Lib.hid hN
  have Hn := Lib.hid (show 0 ≤ now ∧ now ≤ 1099511627776 from ⟨hn0, hn1⟩)
  clear ho ha hN hn0 hn1
  go_enter Try.func9, Try.ntmps9
  go_wp2_with (first
    | (go_at_call 27; (with_reducible refine (HH.out _).mono ?_); rintro e x1 ⟨rfl, hb⟩; have HB1 := Lib.hid (bTr (bAl (bRef w) _) hb); have K1 := Lib.hid (K0.out.below hb); obtain ⟨k0, k1, k2, k3, k4, k5, k6, k7, k8⟩ := K1.out.cells; clear hb)
    | (go_at_call 28; (with_reducible refine (HNw.out _).mono ?_); rintro e x2 ⟨b, lo, rfl, hlo, hm, hb⟩; have HB2 := Lib.hid (bTr HB1.out hb); have K2 := Lib.hid (K1.out.below hb); have HM2 := Lib.hid hm; have HLO := Lib.hid (Nat.le_trans HB1.out.size hlo); have HLB : Hid (w.heap.size < lo) := Lib.hid (by have := K1.out.lt; omega); obtain ⟨j0, j1, j2, j3, j4, j5, j6, j7, j8⟩ := K2.out.cells; clear hb hm hlo)
    | (go_at_call 29; (with_reducible refine (HR.out _).mono ?_); rintro e x3 ⟨rfl, hb⟩; have HB3 := Lib.hid (bTr HB2.out hb); have K3 := Lib.hid (K2.out.below hb); have HM3 := Lib.hid (HM2.out.below hb); have HS3 := Lib.hid hb.size; clear hb))
  go_loopw [11, 12] (fun vv kv wr => ∃ (k : Nat) (v : Value), vv = v ∧ kv = .int .i64 (k : Int) ∧ k ≤ n ∧ Gr x3 (R0 w1 l1 r1 now) v k wr) (fun _ kv _ => n - (intOf kv).toNat)
  case atStart => exact ⟨0, _, rfl, rfl, by omega, Gr.start x3 _⟩
  case round =>
    clear K0 K1 K2 HB1 HB2 HM2 HNw HR HH j0 j1 j2 j3 j4 j5 j6 j7 j8 k0 k1 k2 k3 k4 k5 k6 k7 k8
    obtain ⟨k, v, rfl, rfl, hk, hg⟩ := hrel
    have HG := Lib.hid hg
    have KR := Lib.hid ((K3.out.below (hg.bel.mono (Nat.le_refl _))))
    obtain ⟨y0, y1, y2, y3, y4, y5, y6, y7, y8⟩ := KR.out.cells
    obtain ⟨vp, vn, vc, rfl⟩ := hg.form
    obtain ⟨hn1, hn8⟩ := HO.out.1
    clear hg
    rcases Nat.lt_or_ge k n with g1 | g1
    · have hd : decide ((k : Int) < (n : Int)) = true := decide_eq_true (by omega)
      go_wp2_with (first
        | (go_at_call 22; (with_reducible refine (HRN.out _).mono ?_); rintro e w3 ⟨rfl, hb⟩; have HG3 := Lib.hid ((HG.out.below hb).below (bAl (bRef w3) (.cells (RA (R0 w1 l1 r1 now) (.slice none 0 0)) 39))); clear hb)
        | ((with_reducible refine at_appE ?_); refine wpList_appE rfl _ _ rfl x3.heap.size _ (R0 w1 l1 r1 now) k w3.heap.size rfl rfl HG3.out.row HG3.out.bel.size (heap_alloc_one' w3 _) (by omega) ?_; intro v' w4 hr hgr; have HG4 := Lib.hid (HG3.out.app hr hgr); obtain ⟨p', nn', c', rfl⟩ := HG4.out.form; clear hr hgr))
      go_roundw
      case rel => exact ⟨k + 1, _, rfl, by go_num, by omega, HG4.out⟩
      case measure => simp [intOf]; omega
    · obtain rfl : k = n := by omega
      have hd : decide ((k : Int) < (k : Int)) = false := decide_eq_false (by omega)
      obtain ⟨g, cap, e, hST⟩ := strow HG.out.row (by omega) rfl
      injection e with e1 e2 e3
      subst e1 e2 e3
      have HST := Lib.hid (hST.mono HB3.out.size)
      have HLG := Lib.hid hST.lt
      have HHG := Lib.hid (Nat.le_trans HS3.out hST.hg)
      have HB4 := Lib.hid (HB3.out.trans (HG.out.bel.mono HB3.out.size))
      have HM4 := Lib.hid (HM3.out.below HG.out.bel)
      have eN : wrap64 (now + every) = now + every := by have h1 := Hn.out; have h2 := HO.out.2.1; unfold wrap64; omega
      clear hST y0 y1 y2 y3 y4 y5 y6 y7 y8
      obtain ⟨y0, y1, y2, y3, y4, y5, y6, y7, y8⟩ := KR.out.cells
      clear y7
      go_wp2_with (go_at_call 22; (with_reducible refine (HRA.out _).mono ?_); rintro e w5 ⟨rfl, hb⟩; have HB5 := Lib.hid hb; have K5 := Lib.hid (KR.out.below hb); obtain ⟨j0, j1, j2, j3, j4, j5, j6, j7, j8⟩ := (K5.out.below (bAl (bRef w5) (.cells (RA (R0 w2 l2 r2 now) (.slice none 0 0)) 39))).cells; clear hb y0 y1 y2 y3 y4 y5 y6 y8)
      go_loopw [14, 15, 16, 17, 129] (fun nv pv av sv kv wr => GRel w b lo x2.heap.size g w5.heap.size ⟨vn, w1, l1, r1, w2, l2, r2, every, limit⟩ N nv pv av sv kv wr) (fun _ _ _ _ kv _ => N - (intOf kv).toNat)
      case atStart =>
        refine ⟨0, M0 vn every limit now (Q0 w1 l1 r1 now) (Q0 w2 l2 r2 now), fun _ => R0 w1 l1 r1 now, fun _ => .slice none 0 0, R0 w2 l2 r2 now, .slice none 0 0, now + every, 0, 0, 0, by rw [eN], rfl, rfl, rfl, rfl, by omega, ?_, GP.start HO.out Hn.out.1 Hn.out.2⟩
        exact ⟨(HM4.out.below HB5.out).alloc _, (HST.out.below HB5.out).below (bAl (bRef w5) _), heap_alloc_one' w5 _, LA.nil _, K5.out.below (bAl (bRef w5) _), bAl (HB4.out.trans (HB5.out.mono HB4.out.size)) _, HLB.out, HHG.out, by have h1 := HLG.out; have h2 := HB5.out.size; omega⟩
      case round =>
        clear HST HLG HHG HB4 HM4 eN KR HG K5 HB5 j0 j1 j2 j3 j4 j5 j6 j7 j8 HM3 K3 HS3 HB3 HRN HRA
        obtain ⟨k, M, rs, vs, ra, va, next, passed, again, silent, rfl, rfl, rfl, rfl, rfl, hk, hs, hp⟩ := hrel
        have HS := Lib.hid hs
        have HP := Lib.hid hp
        have hn100 := HN.out
        clear hs hp
        rcases Nat.lt_or_ge k N with g2 | g2
        · have hd2 : decide ((k : Int) < (N : Int)) = true := decide_eq_true (by omega)
          obtain ⟨ab, o, F, rfl, hab, hF⟩ := SlArg.at HA.out (by omega)
          obtain ⟨⟨z0, z1, z2, z3, hz, b1, b2, b3⟩, hlen, hc⟩ := hF k g2
          rw [hz] at hc
          have c0 := (HS.out.bel.cell (p := ⟨ab, o + k * 4 + 0, none⟩) hab).trans (hc 0 (by omega))
          have c1 := (HS.out.bel.cell (p := ⟨ab, o + k * 4 + 1, none⟩) hab).trans (hc 1 (by omega))
          have c2 := (HS.out.bel.cell (p := ⟨ab, o + k * 4 + 2, none⟩) hab).trans (hc 2 (by omega))
          have c3 := (HS.out.bel.cell (p := ⟨ab, o + k * 4 + 3, none⟩) hab).trans (hc 3 (by omega))
          rw [Nat.add_zero] at c0
          simp only [List.getElem?_cons_zero, List.getElem?_cons_succ] at c0 c1 c2 c3
          clear hF hc hlen hz F hab
          cases hz0 : z0 with
          | true => exact round_look HS HP g2 hn100 c0 c1 c2 c3 b1 b2 b3 hz0
          | false =>
            by_cases hw : z2 < 0 ∨ (vn : Int) ≤ z2
            · exact round_noway HS HP g2 hn100 c0 c1 c2 c3 b1 b2 b3 hz0 hw
            · obtain ⟨y, hy⟩ : ∃ y : Nat, z2 = (y : Int) := ⟨z2.toNat, by omega⟩
              by_cases ht : 0 ≤ z3 ∧ z3 < 65536 ∧ taken ((M.ones y).told z1 z3)
              · exact round_taken HS HP g2 hn100 c0 c1 c2 c3 b1 b2 b3 (fun _ _ _ _ _ h => h) y hy hz0 (by omega) ht.1 ht.2.1 ht.2.2
              · exact round_not HS HP g2 hn100 c0 c1 c2 c3 b1 b2 b3 (fun _ _ _ _ _ h => h) y hy hz0 (by omega) ht
        · obtain rfl : N = k := by omega
          have hd2 : decide ((N : Int) < (N : Int)) = false := decide_eq_false (by omega)
          go_wp2_with fail
          go_loopw [31] (fun iv wr => ∃ i : Nat, iv = .int .i64 (i : Int) ∧ i ≤ vn ∧ GS w b lo x2.heap.size g w5.heap.size ⟨vn, w1, l1, r1, w2, l2, r2, every, limit⟩ M rs vs ra va wr) (fun iv _ => vn - (intOf iv).toNat)
          case atStart => exact ⟨0, rfl, by omega, HS.out⟩
          case round =>
            clear HS
            obtain ⟨i, rfl, hi, hs⟩ := hrel
            have HS := Lib.hid hs
            obtain ⟨m0, m1, m2, m3, m4, m5, m6, m7, m8⟩ := hs.cf.cells
            simp only at m0
            have hn_ := HP.out.n_
            simp only at hn_
            have hn8 := HP.out.good.n8
            rw [hn_] at hn8
            clear m1 m2 m3 m4 m5 m6 m7 m8 hs
            rcases Nat.lt_or_ge i vn with g3 | g3
            · have hd3 : decide ((i : Int) < (vn : Int)) = true := decide_eq_true (by omega)
              have hR := (HP.out.one i g3).1
              have hcn : M.counts i = M.ones i := by unfold MG.counts; rw [if_pos (by omega)]
              have HCo : Hid (∀ W, GS w b lo x2.heap.size g w5.heap.size ⟨vn, w1, l1, r1, w2, l2, r2, every, limit⟩ M rs vs ra va W → Calls Try.prog 33 #[.pointer (some ⟨b, 0, none⟩), .int .i64 (i : Int)] W fun e w' => e = .returned (C4 (M.ones i).c0 (M.ones i).c1 (M.ones i).c2 (M.ones i).c3) ∧ Below W.heap.size W w') := Lib.hid (fun W hW => by
                have key := mcounts_any hW.mg i (by omega)
                rw [hcn] at key
                exact key)
              have HAll : Hid (∀ W, GS w b lo x2.heap.size g w5.heap.size ⟨vn, w1, l1, r1, w2, l2, r2, every, limit⟩ M rs vs ra va W → W.cell? ⟨g, i * 13 + 7, none⟩ = some (.int .i64 (M.ones i).c0) ∧ W.cell? ⟨g, i * 13 + 8, none⟩ = some (.int .i64 (M.ones i).c1) ∧ W.cell? ⟨g, i * 13 + 9, none⟩ = some (.int .i64 (M.ones i).c2) ∧ W.cell? ⟨g, i * 13 + 10, none⟩ = some (.int .i64 (M.ones i).c3) ∧ GS w b lo x2.heap.size g w5.heap.size ⟨vn, w1, l1, r1, w2, l2, r2, every, limit⟩ M rs vs ra va W) := Lib.hid (fun W hW => by
                rw [← hR.c0, ← hR.c1, ← hR.c2, ← hR.c3]
                exact ⟨hW.row.at_ i g3 7 _ rfl, hW.row.at_ i g3 8 _ rfl, hW.row.at_ i g3 9 _ rfl, hW.row.at_ i g3 10 _ rfl, hW⟩)
              obtain ⟨t7, t8, t9, t10, -⟩ := HAll.out wr HS.out
              have i1 : (0 : Int) ≤ (i : Int) := by omega
              have i2 : (i : Int) < (vn : Int) := by omega
              clear hR hcn
              generalize (M.ones i).c0 = v0 at *
              generalize (M.ones i).c1 = v1 at *
              generalize (M.ones i).c2 = v2 at *
              generalize (M.ones i).c3 = v3 at *
              have hq := fun W => run_neC4 v0 v1 v2 v3 v0 v1 v2 v3 W true (by simp)
              go_wp2_with fail
              go_region_held3 (fun W => W.cell? ⟨g, i * 13 + 7, none⟩ = some (.int .i64 v0) ∧ W.cell? ⟨g, i * 13 + 8, none⟩ = some (.int .i64 v1) ∧ W.cell? ⟨g, i * 13 + 9, none⟩ = some (.int .i64 v2) ∧ W.cell? ⟨g, i * 13 + 10, none⟩ = some (.int .i64 v3) ∧ GS w b lo x2.heap.size g w5.heap.size ⟨vn, w1, l1, r1, w2, l2, r2, every, limit⟩ M rs vs ra va W)
                (first | (refine ⟨?_, ?_, ?_, ?_, ?_⟩ <;> first | go_keep | exact HS.out.below (bDr1 (bRef _)) | exact HS.out) | (go_split_ands; exact HAll.out _ (GS.below (by assumption) hb1)))
                (first
                  | (go_split_ands; go_at_call 33; (with_reducible refine (HCo.out _ (by assumption)).mono ?_); rintro e w1x ⟨rfl, hb1⟩))
              all_goals
                go_split_ands
                go_wp2_with fail
                go_roundw
                case rel => exact ⟨i + 1, by go_num, by omega, by assumption⟩
                case measure => simp [intOf]; omega
            · obtain rfl : vn = i := by omega
              have hd3 : decide ((vn : Int) < (vn : Int)) = false := decide_eq_false (by omega)
              have hR := HP.out.all.1
              have hcn : M.counts vn = M.all := by unfold MG.counts; rw [if_neg (by omega)]
              have HCo : Hid (∀ W, GS w b lo x2.heap.size g w5.heap.size ⟨vn, w1, l1, r1, w2, l2, r2, every, limit⟩ M rs vs ra va W → Calls Try.prog 33 #[.pointer (some ⟨b, 0, none⟩), .int .i64 (vn : Int)] W fun e w' => e = .returned (C4 M.all.c0 M.all.c1 M.all.c2 M.all.c3) ∧ Below W.heap.size W w') := Lib.hid (fun W hW => by
                have key := mcounts_any hW.mg vn (by omega)
                rw [hcn] at key
                exact key)
              have HC0 : Hid (∀ W, GS w b lo x2.heap.size g w5.heap.size ⟨vn, w1, l1, r1, w2, l2, r2, every, limit⟩ M rs vs ra va W → Calls Try.prog 33 #[.pointer (some ⟨b, 0, none⟩), .int .i64 (-1)] W fun e w' => e = .returned (C4 0 0 0 0) ∧ Below W.heap.size W w') := Lib.hid (fun W hW => mcounts_none hW.mg (-1) (.inl (by omega)))
              have HC1 : Hid (∀ W, GS w b lo x2.heap.size g w5.heap.size ⟨vn, w1, l1, r1, w2, l2, r2, every, limit⟩ M rs vs ra va W → Calls Try.prog 33 #[.pointer (some ⟨b, 0, none⟩), .int .i64 ((vn : Int) + 1)] W fun e w' => e = .returned (C4 0 0 0 0) ∧ Below W.heap.size W w') := Lib.hid (fun W hW => mcounts_none hW.mg _ (.inr (by omega)))
              have HSi : Hid (∀ W, GS w b lo x2.heap.size g w5.heap.size ⟨vn, w1, l1, r1, w2, l2, r2, every, limit⟩ M rs vs ra va W → Calls Try.prog 32 #[.pointer (some ⟨b, 0, none⟩)] W fun e w' => e = .returned (.int .i64 silent) ∧ Below W.heap.size W w') := Lib.hid (fun W hW => (msilent_any hW.mg).mono (fun e w' ⟨h1, h2⟩ => ⟨by rw [h1, HP.out.sl], by rw [h2]; exact bRef W⟩))
              have HAll : Hid (∀ W, GS w b lo x2.heap.size g w5.heap.size ⟨vn, w1, l1, r1, w2, l2, r2, every, limit⟩ M rs vs ra va W → W.cell? ⟨w5.heap.size, 7, none⟩ = some (.int .i64 M.all.c0) ∧ W.cell? ⟨w5.heap.size, 8, none⟩ = some (.int .i64 M.all.c1) ∧ W.cell? ⟨w5.heap.size, 9, none⟩ = some (.int .i64 M.all.c2) ∧ W.cell? ⟨w5.heap.size, 10, none⟩ = some (.int .i64 M.all.c3) ∧ W.cell? ⟨w.heap.size, 0, none⟩ = some (.int .i64 (vn : Int)) ∧ GS w b lo x2.heap.size g w5.heap.size ⟨vn, w1, l1, r1, w2, l2, r2, every, limit⟩ M rs vs ra va W) := Lib.hid (fun W hW => by
                rw [← hR.c0, ← hR.c1, ← hR.c2, ← hR.c3]
                have hx := hW.box
                obtain ⟨y0, _⟩ := hW.cf.cells
                exact ⟨cell_of_row _ _ 7 _ _ _ hx, cell_of_row _ _ 8 _ _ _ hx, cell_of_row _ _ 9 _ _ _ hx, cell_of_row _ _ 10 _ _ _ hx, y0, hW⟩)
              obtain ⟨t7, t8, t9, t10, -⟩ := HAll.out wr HS.out
              have ew : wrap64 ((vn : Int) + 1) = (vn : Int) + 1 := by unfold wrap64; omega
              have ew2 : IntKind.i64.wrap ((vn : Int) + 1) = (vn : Int) + 1 := by rw [IntKind.wrap_i64]; omega
              clear hR hcn hn_ hn8
              generalize M.all.c0 = v0 at *
              generalize M.all.c1 = v1 at *
              generalize M.all.c2 = v2 at *
              generalize M.all.c3 = v3 at *
              have hq := fun W => run_eqC4 v0 v1 v2 v3 v0 v1 v2 v3 W true (by simp)
              have hq0 := fun W => run_eqC4 0 0 0 0 0 0 0 0 W true (by simp)
              go_wp2_with fail
              go_region_held3 (fun W => W.cell? ⟨w5.heap.size, 7, none⟩ = some (.int .i64 v0) ∧ W.cell? ⟨w5.heap.size, 8, none⟩ = some (.int .i64 v1) ∧ W.cell? ⟨w5.heap.size, 9, none⟩ = some (.int .i64 v2) ∧ W.cell? ⟨w5.heap.size, 10, none⟩ = some (.int .i64 v3) ∧ W.cell? ⟨w.heap.size, 0, none⟩ = some (.int .i64 (vn : Int)) ∧ GS w b lo x2.heap.size g w5.heap.size ⟨vn, w1, l1, r1, w2, l2, r2, every, limit⟩ M rs vs ra va W)
                (first | (refine ⟨?_, ?_, ?_, ?_, ?_, ?_⟩ <;> first | go_keep | exact HS.out.below (bDr1 (bRef _)) | exact HS.out) | (go_split_ands; exact HAll.out _ (GS.below (by assumption) hb1)))
                (first
                  | (go_split_ands; go_at_call 33; (with_reducible refine (HCo.out _ (by assumption)).mono ?_); rintro e w1x ⟨rfl, hb1⟩)
                  | (go_split_ands; go_at_call 33; (with_reducible refine (HC0.out _ (by assumption)).mono ?_); rintro e w1x ⟨rfl, hb1⟩)
                  | (go_split_ands; go_at_call 33; (with_reducible refine (HC1.out _ (by assumption)).mono ?_); rintro e w1x ⟨rfl, hb1⟩)
                  | (go_split_ands; go_at_call 32; (with_reducible refine (HSi.out _ (by assumption)).mono ?_); rintro e w1x ⟨rfl, hb1⟩))
              all_goals
                go_split_ands
                go_wp2_with fail
                go_ret
                exact ⟨rfl, GS.bel (by assumption)⟩

theorem mergeRuns_holds : Rows.MergeRunsSaid := mergeRuns_of (fun ways w1 l1 r1 w2 l2 r2 every limit now v n w _ _ _ _ _ _ _ _ _ _ ha => by
  obtain ⟨p, c, rfl⟩ := ha.slice
  by_cases hn : 100 < n
  · exact mruns_many ways w1 l1 r1 w2 l2 r2 every limit now p n c w hn
  by_cases h : okM ways w1 l1 r1 w2 l2 r2 every limit ∧ 0 ≤ now ∧ now ≤ 1099511627776
  · obtain ⟨h, h0, h1⟩ := h
    obtain ⟨N, rfl⟩ : ∃ N : Nat, ways = (N : Int) := ⟨ways.toNat, by have := h.1; omega⟩
    exact mruns_ok N w1 l1 r1 w2 l2 r2 every limit now p n c w (by omega) h h0 h1 ha
  · exact mruns_not ways w1 l1 r1 w2 l2 r2 every limit now p n c w (by omega) h)

end Go.Proofs.Ytnkblihdgfhcdaa
