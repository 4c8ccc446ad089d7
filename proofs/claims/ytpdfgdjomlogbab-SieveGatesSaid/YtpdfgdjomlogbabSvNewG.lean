/- Package sieve: New, of one stream and one list of gates. -/
import Derived.Test.YtpdfgdjomlogbabSvGateIn
namespace Go.Proofs.Ytpdfgdjomlogbab
open Go.RowKit Go.Joins

theorem Try.infoGL : (Try.prog.info? 46).map (fun i => (i.zero, i.size, i.bytes)) = some (some (.agg #[.int .i64 0, .int .i64 0, .slice none 0 0]), 3, 40) := by kernel_rfl
theorem run_bsL (B C : Int) (sl : Value) (W : World) : (Instr.buildSlice 48 1 #[(0, LV B C sl)]).run Try.prog W = .ok (.slice (some ⟨W.heap.size, 0, none⟩) 1 1) (W.alloc (.cells #[.int .i64 B, .int .i64 C, sl] 46)) := by kernel_rfl
theorem bsL_op {a : Act} {o : Oper} (s : Operand) (ho : o.op = .buildSlice 48 1 #[(0, s)]) {B C : Int} {sl : Value} (hs : a.eval s = LV B C sl) (W : World) : (execOp a.eval o).run Try.prog W = .ok (.value (.slice (some ⟨W.heap.size, 0, none⟩) 1 1)) (W.alloc (.cells #[.int .i64 B, .int .i64 C, sl] 46)) := by
  have hm : (#[(0, s)] : Array (Nat × Operand)).map (fun (i, y) => (i, a.eval y)) = #[(0, LV B C sl)] := by simp [hs]
  unfold execOp
  simp only [ho]
  rw [Sem.run_bind, hm, run_bsL]
  rfl
def GRel (w w0 : World) (y : Sm) (B C : Int) (ts : List (Int × Int)) (kv : Value) (W : World) : Prop :=
  (kv = .int .i64 0 ∧ W = w0) ∨ (kv = .int .i64 1 ∧ chkV B C ts = 0 ∧ ∃ g cap h hc sl', NG w w.heap.size g cap h hc (fl0 y) B C sl' ts W)
def NwG (w : World) (y : Sm) (B C : Int) (ts : List (Int × Int)) (e : Ending) (w' : World) : Prop :=
  (∃ c : Int, c ≠ 0 ∧ ¬ (Right y 1 0 ∧ chkV B C ts = 0) ∧ e = .returned (.tuple #[.pointer none, .int .i64 c]) ∧ Below w.heap.size w w') ∨ (e = .returned (.tuple #[.pointer (some ⟨w.heap.size, 0, none⟩), .int .i64 0]) ∧ Right y 1 0 ∧ chkV B C ts = 0 ∧ ∃ g cap h hc sl', NG w w.heap.size g cap h hc (fl0 y) B C sl' ts w')
def NwRelG (w : World) (L : List Sm) (kv : Value) (W : World) : Prop :=
  ∃ k : Nat, k ≤ L.length ∧ kv = .int .i64 (k : Int) ∧ (∀ i, i < k → Right (L.getD i default) 1 0) ∧ ∃ v, NS w w.heap.size v (fls L k) 0 W
theorem nw_nextG {w W : World} {L : List Sm} {n k : Nat} {x : Sm} {kv : Value} {p : Option Addr} {m c : Nat} (hn : L.length = n) (g : k < n) (hr : ∀ i, i < k → Right (L.getD i default) 1 0) (hx : L.getD k default = x) (hR : Right x 1 0) (hkv : kv = .int .i64 ((k + 1 : Nat) : Int)) (hN : NS w w.heap.size (.slice p m c) (fls L k ++ [fl0 x]) 0 W) : NwRelG w L kv W := by
  refine ⟨k + 1, by omega, hkv, fun i hi => ?_, .slice p m c, ?_⟩
  · rcases Nat.lt_or_ge i k with q | q
    · exact hr i q
    · rw [show i = k by omega, hx]; exact hR
  · rw [fls_succ L (by omega), hx]; exact hN
set_option maxHeartbeats 4000000 in
theorem newG_any {v : Value} {L : List Sm} {w : World} {y : Sm} {r : Nat} {B C : Int} {sl : Value} {ts : List (Int × Int)} (now : Int) (h : SmArg w v L) (hLy : L = [y]) (hr0 : w.heap[r]? = some (.cells #[.int .i64 B, .int .i64 C, sl] 46 (0, 0))) (hts : TArg w sl ts) :
    Calls Try.prog 8 #[v, .slice (some ⟨r, 0, none⟩) 1 1, .slice none 0 0, .int .i64 now] w fun e w' => NwG w y B C ts e w' := by
  obtain ⟨sp, sc, rfl⟩ := hts.slice
  have hl : L.length ≤ 64 := by rw [hLy]; simp
  have HLY := Lib.hid hLy
  have HR0 := Lib.hid hr0
  have HTS := Lib.hid hts
  clear hLy hr0 hts
  have HA := Lib.hid h
  obtain ⟨p, c, rfl⟩ := h.slice
  obtain ⟨n, hn⟩ : ∃ n, L.length = n := ⟨_, rfl⟩
  have HN := Lib.hid hn
  rw [hn] at HA hl ⊢
  have d1 : decide ((64 : Int) < (n : Int)) = false := decide_eq_false (by omega)
  have HI : Hid (NS w w.heap.size (.slice none 0 0) (fls L 0) 0 (w.alloc (.cells #[.slice none 0 0, .slice none 0 0, .slice none 0 0, .int .i64 0] 55))) := Lib.hid ⟨heap_alloc_one w _, ⟨by simp [fls, fv], .inl ⟨rfl, rfl⟩⟩, bAl (bRef w) _, Nat.le_refl _⟩
  obtain ⟨i0, hi, hz0, hz1, hz2⟩ := info_parts Try.infoFl
  have HIi := Lib.hid hi
  have HZ0 := Lib.hid hz0
  have HZ1 := Lib.hid hz1
  have HZ2 := Lib.hid hz2
  clear h hn hi hz0 hz1 hz2
  go_enter Try.func8, Try.ntmps8
  go_wp2_with fail
  go_loopw [37] (fun kv wr => NwRelG w L kv wr) (fun kv _ => n - (intOf kv).toNat)
  case atStart => exact ⟨0, by omega, rfl, fun i hi => by omega, _, HI.out⟩
  case round =>
    clear HI
    obtain ⟨k, hk, rfl, hr, vv, hS⟩ := hrel
    rw [HN.out] at hk
    have HR := Lib.hid hr
    have HS := Lib.hid hS
    rcases Nat.lt_or_ge k n with g | g
    · have hd : decide ((k : Int) < (n : Int)) = true := decide_eq_true (by omega)
      have hkl : k < L.length := by rw [HN.out]; exact g
      rcases HA.out.below hS.bel with ⟨e, _⟩ | ⟨h0, gg, oo, cap, e, hg, hcp, hcl⟩
      · rw [e] at hkl; simp at hkl
      rw [HN.out] at e hcp
      injection e with e1 _ e3
      subst e1 e3
      have HX := Lib.hid (hcl k hkl)
      obtain ⟨x, hx⟩ : ∃ x, L.getD k default = x := ⟨_, rfl⟩
      have HXE := Lib.hid hx
      rw [hx] at HX
      have HRI := Lib.hid (isRight_any x 1 0)
      have HB1 := Lib.hid (bAl (bRef wr) (.cells (SA x) 28))
      have HS1 := Lib.hid (hS.below HB1.out)
      have HST : Hid (NStep w.heap.size wr.heap.size vv x (wr.alloc (.cells (SA x) 28))) := Lib.hid ⟨HS1.out.box, heap_alloc_one wr _⟩
      have HSZ := Lib.hid (lt_of_heap hS.box)
      by_cases hright : Right x 1 0
      · have d2 : decide (Right x 1 0) = true := decide_eq_true hright
        rw [d2] at HRI
        have HRR := Lib.hid hright
        obtain ⟨p1, c1, rfl⟩ := row_form hS.row
        clear hr hS hcl hx hright hg d2
        go_upto_region 9 with (first
          | (with_reducible refine at_storeSm ?_; refine wpList_storeSm rfl _ _ rfl x _ rfl rfl rfl ?_)
          | (with_reducible refine at_loadSm ?_; first | refine wpList_loadSm rfl _ rfl gg (oo + k * 14) rfl x HX.out ?_ | refine wpList_loadSm rfl _ rfl wr.heap.size 0 rfl x (row_cells HST.out.st) ?_)
          | (go_at_call 14; (with_reducible refine (HRI.out _ (by omega) (by omega)).mono ?_); rintro e w1 ⟨rfl, hb⟩; have HS2 := Lib.hid (HS1.out.below hb); have HST2 := Lib.hid (HST.out.below hb); have HSZ2 := Lib.hid hb.size; clear hb))
        have HSD := HS2.out.below (bRef _).drew
        have HT0 := HST2.out.below (bRef _).drew
        refine wp_region_held_drew (S := fun W => W.heap[wr.heap.size]? = some (.cells (SA x) 28 (0, 0))) (by kernel_rfl) HT0.st (fun _ => ?_)
        refine hTake (i := 0) (k := 48) (v := .pointer (some ⟨w.heap.size, 0, none⟩)) rfl rfl (by kernel_rfl) (by kernel_rfl) (by kernel_rfl) (fun _ _ _ h => h) (yieldsIf_val (by rfl) (by intro W; go_simp)) HT0.st ?_
        simp only [List.setIfInBounds_toArray, List.set_cons_zero, List.set_cons_succ]
        refine hTake (i := 1) (k := 49) (v := .pointer (some ⟨w.heap.size, 0, none⟩)) rfl rfl (by kernel_rfl) (by kernel_rfl) (by kernel_rfl) (fun _ _ _ h => h) (yieldsIf_val (by rfl) (by intro W; go_simp)) HT0.st ?_
        simp only [List.setIfInBounds_toArray, List.set_cons_zero, List.set_cons_succ]
        refine hTake (i := 2) (k := 50) (v := .pointer (some ⟨w.heap.size, 0, none⟩)) rfl rfl (by kernel_rfl) (by kernel_rfl) (by kernel_rfl) (fun _ _ _ h => h) (yieldsIf_val (by rfl) (by intro W; go_simp)) HT0.st ?_
        simp only [List.setIfInBounds_toArray, List.set_cons_zero, List.set_cons_succ]
        refine hTake (i := 3) (k := 51) (v := .pointer (some ⟨w.heap.size, 0, none⟩)) rfl rfl (by kernel_rfl) (by kernel_rfl) (by kernel_rfl) (fun _ _ _ h => h) (yieldsIf_val (by rfl) (by intro W; go_simp)) HT0.st ?_
        simp only [List.setIfInBounds_toArray, List.set_cons_zero, List.set_cons_succ]
        refine hTake (i := 5) (k := 53) (v := .agg (SA x)) rfl rfl (by kernel_rfl) (by kernel_rfl) (by kernel_rfl) (fun _ _ _ h => h) (.inl ⟨by rfl, fun W hW => load_op (.tmp 12) rfl rfl W hW⟩) HT0.st ?_
        simp only [List.setIfInBounds_toArray, List.set_cons_zero, List.set_cons_succ]
        refine hTake (i := 6) (k := 54) (v := .agg (FA (fl0 x))) rfl rfl (by kernel_rfl) (by kernel_rfl) (by kernel_rfl) (fun _ _ _ h => h) (yieldsIf_val (by rfl) (fun W => build_op (.tmp 53) rfl rfl W)) HT0.st ?_
        simp only [List.setIfInBounds_toArray, List.set_cons_zero, List.set_cons_succ]
        have HS3 := HSD.below (bAl (bRef w1.drew) (.cells (FA (fl0 x)) 58))
        have HT3 := HT0.below (bAl (bRef w1.drew) (.cells (FA (fl0 x)) 58))
        have hst3 := HT3.st
        have HLK := Lib.hid (fls_len L (show k ≤ L.length by omega))
        obtain ⟨v3, w3, hrun, h1, h2, h3, h4⟩ := run_append_own_at (P := Try.prog) (w1.drew.alloc (.cells (FA (fl0 x)) 58)) (w.heap.size + 1) 52 52 58 i0 _ 21 120 Try.underlying52 HIi.out HZ0.out HZ1.out HZ2.out rfl (by decide) _ _ _ HS3.row ⟨w1.drew.heap.size, 0, none⟩ 1 1 (FA (fl0 x)).toList rfl (fun j u hj => by rw [add_fl]; exact row_cells (heap_alloc_one w1.drew (.cells (FA (fl0 x)) 58)) j u hj) (fv_one (fl0 x)) (by rw [HLK.out]; unfold maxLen; omega) (by rw [HLK.out]; omega) (by have := lt_of_heap HS3.box; omega)
        have hgr := HS3.grow h1 h2 (lt_of_heap HS3.box)
        have hst4 : w3.heap[wr.heap.size]? = some (.cells (SA x) 28 (0, 0)) := (h2.block _ (lt_of_heap hst3) (fun e => own_ne HS3.row hst3 e.symm)).trans hst3
        have hst5 : (w3.setCell ⟨w.heap.size, 0, none⟩ (v3)).heap[wr.heap.size]? = some (.cells (SA x) 28 (0, 0)) := (heap_setCell_other _ _ _ _ (by have := HSZ.out; simp; omega)).trans hst4
        obtain ⟨p3, c3, hv3⟩ := row_form h1
        subst hv3
        have HN3 := Lib.hid hgr.2.1
        have hbx3 := hgr.1
        refine hTwoS (i := 4) (j := 7) (k := 52) (m := 55) (v := .slice p1 (fls L k).length c1) (u := .slice (some ⟨w1.drew.heap.size, 0, none⟩) 1 1) (w' := w1.drew) (w2 := w1.drew.alloc (.cells (FA (fl0 x)) 58)) (by kernel_rfl) rfl rfl rfl rfl (by rfl) (by rfl) (by have q0 := NStep.cell HT0; go_simp) (bs_op (.tmp 54) rfl rfl _) HT0.st hst3 ?_ ?_
        · simp only [List.setIfInBounds_toArray, List.set_cons_zero, List.set_cons_succ]
          refine hOneS (i := 7) (k := 55) (v := .slice (some ⟨w1.drew.heap.size, 0, none⟩) 1 1) (w' := w1.drew.alloc (.cells (FA (fl0 x)) 58)) (by kernel_rfl) rfl rfl (by rfl) (bs_op (.tmp 54) rfl rfl _) hst3 ?_
          simp only [List.setIfInBounds_toArray, List.set_cons_zero, List.set_cons_succ]
          refine hOneS (i := 8) (k := 56) (v := .slice p3 ((fls L k).length + 1) c3) (w' := w3) (by kernel_rfl) rfl rfl (by rfl) (app_op (.tmp 52) (.tmp 55) 52 rfl rfl rfl (fun _ => hrun)) hst4 ?_
          simp only [List.setIfInBounds_toArray, List.set_cons_zero, List.set_cons_succ]
          refine hTake (i := 9) (k := 57) (v := .pointer (some ⟨w.heap.size, 0, none⟩)) rfl rfl (by kernel_rfl) (by kernel_rfl) (by kernel_rfl) (fun _ _ _ h => h) (yieldsIf_val (by rfl) (by intro W; go_simp)) hst4 ?_
          simp only [List.setIfInBounds_toArray, List.set_cons_zero, List.set_cons_succ]
          refine hTake (i := 10) (k := 58) (v := .pointer (some ⟨w.heap.size, 0, none⟩)) rfl rfl (by kernel_rfl) (by kernel_rfl) (by kernel_rfl) (fun _ _ _ h => h) (yieldsIf_val (by rfl) (by intro W; go_simp)) hst4 ?_
          simp only [List.setIfInBounds_toArray, List.set_cons_zero, List.set_cons_succ]
          refine hOneNS (i := 11) (w' := w3.setCell ⟨w.heap.size, 0, none⟩ (.slice p3 ((fls L k).length + 1) c3)) (by kernel_rfl) rfl rfl (by rfl) (by have q0 := cell_of_row _ _ 0 _ _ _ hbx3; have q1 := frozen_of_row _ _ 0 _ _ hbx3; go_simp) hst5 ?_
          refine wpAnyH_done (by kernel_rfl) ?_ _
          go_wp2_with fail
          go_roundw
          case rel => exact nw_nextG HN.out g HR.out HXE.out HRR.out (by go_num) HN3.out
          case measure => simp [intOf]; omega
        · simp only [List.setIfInBounds_toArray, List.set_cons_zero, List.set_cons_succ]
          refine hOneS (i := 4) (k := 52) (v := .slice p1 (fls L k).length c1) (w' := w1.drew.alloc (.cells (FA (fl0 x)) 58)) (by kernel_rfl) rfl rfl (by rfl) (by have q0 : (w1.alloc (.cells (FA (fl0 x)) 58)).cell? ⟨w.heap.size, 0, none⟩ = some (.slice p1 (fls L k).length c1) := (show (w1.drew.alloc (.cells (FA (fl0 x)) 58)).cell? ⟨w.heap.size, 0, none⟩ = some (.slice p1 (fls L k).length c1) from NStep.cell HT3); go_simp) hst3 ?_
          simp only [List.setIfInBounds_toArray, List.set_cons_zero, List.set_cons_succ]
          refine hOneS (i := 8) (k := 56) (v := .slice p3 ((fls L k).length + 1) c3) (w' := w3) (by kernel_rfl) rfl rfl (by rfl) (app_op (.tmp 52) (.tmp 55) 52 rfl rfl rfl (fun _ => hrun)) hst4 ?_
          simp only [List.setIfInBounds_toArray, List.set_cons_zero, List.set_cons_succ]
          refine hTake (i := 9) (k := 57) (v := .pointer (some ⟨w.heap.size, 0, none⟩)) rfl rfl (by kernel_rfl) (by kernel_rfl) (by kernel_rfl) (fun _ _ _ h => h) (yieldsIf_val (by rfl) (by intro W; go_simp)) hst4 ?_
          simp only [List.setIfInBounds_toArray, List.set_cons_zero, List.set_cons_succ]
          refine hTake (i := 10) (k := 58) (v := .pointer (some ⟨w.heap.size, 0, none⟩)) rfl rfl (by kernel_rfl) (by kernel_rfl) (by kernel_rfl) (fun _ _ _ h => h) (yieldsIf_val (by rfl) (by intro W; go_simp)) hst4 ?_
          simp only [List.setIfInBounds_toArray, List.set_cons_zero, List.set_cons_succ]
          refine hOneNS (i := 11) (w' := w3.setCell ⟨w.heap.size, 0, none⟩ (.slice p3 ((fls L k).length + 1) c3)) (by kernel_rfl) rfl rfl (by rfl) (by have q0 := cell_of_row _ _ 0 _ _ _ hbx3; have q1 := frozen_of_row _ _ 0 _ _ hbx3; go_simp) hst5 ?_
          refine wpAnyH_done (by kernel_rfl) ?_ _
          go_wp2_with fail
          go_roundw
          case rel => exact nw_nextG HN.out g HR.out HXE.out HRR.out (by go_num) HN3.out
          case measure => simp [intOf]; omega
      · have d2 : decide (Right x 1 0) = false := decide_eq_false hright
        rw [d2] at HRI
        have HE : Hid (¬ Right y 1 0) := Lib.hid (fun h => hright (by have e0 : k = 0 := (by have q := HLY.out; rw [q] at hkl; simpa using hkl); rw [← hx, e0, HLY.out]; exact h))
        clear hr hS hcl hx hright hg d2
        go_wp2_with (first
          | (with_reducible refine at_storeSm ?_; refine wpList_storeSm rfl _ _ rfl x _ rfl rfl rfl ?_)
          | (with_reducible refine at_loadSm ?_; first | refine wpList_loadSm rfl _ rfl gg (oo + k * 14) rfl x HX.out ?_ | refine wpList_loadSm rfl _ rfl wr.heap.size 0 rfl x (row_cells HST.out.st) ?_)
          | (go_at_call 14; (with_reducible refine (HRI.out _ (by omega) (by omega)).mono ?_); rintro e w1 ⟨rfl, hb⟩; have HB2 := Lib.hid (bTr HS1.out.bel hb); clear hb))
        go_ret2
        exact .inl ⟨1, by decide, fun h => HE.out h.1, rfl, HB2.out⟩
    · obtain rfl : k = n := by omega
      have hd : decide ((k : Int) < (k : Int)) = false := decide_eq_false (by omega)
      have HR1 : Hid (Right y 1 0) := Lib.hid (by have q := hr 0 (by rw [← HN.out, HLY.out]; simp); rw [HLY.out] at q; exact q)
      have hV : NS w w.heap.size vv [fl0 y] 0 wr := by
        have q := hS
        rw [show fls L k = [fl0 y] by unfold fls; rw [← HN.out, HLY.out]; rfl] at q
        exact q
      obtain ⟨g, cap, hvv, hcap⟩ := hV.pos (by simp)
      subst hvv
      have HV : Hid (NS w w.heap.size (.slice (some ⟨g, 0, none⟩) 1 cap) [fl0 y] 0 wr) := Lib.hid hV
      replace hcap : 1 ≤ cap := hcap
      clear hr hS HS HR hV
      obtain ⟨j0, hj, hj0, hj1, hj2⟩ := info_parts Try.infoGL
      have HJi := Lib.hid hj
      have HJ0 := Lib.hid hj0
      have HJ1 := Lib.hid hj1
      have HJ2 := Lib.hid hj2
      clear hj hj0 hj1 hj2
      go_wp2_with fail
      go_loopw [62] (fun kv wz => GRel w wr y B C ts kv wz) (fun kv _ => 1 - (intOf kv).toNat)
      case atStart => exact .inl ⟨rfl, rfl⟩
      case round =>
        rcases hrel with ⟨rfl, rfl⟩ | ⟨rfl, hck, g', cap', h, hc, sl', hng⟩
        · have hr1 := (HV.out.bel.block r (lt_of_heap HR0.out)).trans HR0.out
          have k0 := cell_of_row _ _ 0 _ _ _ hr1
          have k1 := cell_of_row _ _ 1 _ _ _ hr1
          have k2 := cell_of_row _ _ 2 _ _ _ hr1
          have HT0 := Lib.hid (HTS.out.below HV.out.bel)
          have Hb0 := Lib.hid (bAl (bRef wr) (.cells #[.int .i64 B, .int .i64 C, .slice sp ts.length sc] 46))
          obtain ⟨l0, l1, l2⟩ := (LB.new wr B C (.slice sp ts.length sc)).cells
          have HCK := Lib.hid (check_any B C (.slice sp ts.length sc) ts _ (HT0.out.below Hb0.out))
          obtain ⟨q, hq⟩ : ∃ q, chkV B C ts = q := ⟨_, rfl⟩
          rw [hq] at HCK
          have HQ := Lib.hid hq
          clear hr1 hq
          by_cases hq0 : q = 0
          · subst hq0
            have HQ0 : Hid (chkV B C ts = 0) := Lib.hid HQ.out
            have HCL := Lib.hid (fun W (h : TArg W (.slice sp ts.length sc) ts) => clone_any h (by have := (chk_good HQ0.out).len; omega))
            go_upto_region 18 with (first
              | (go_at_call 15; (with_reducible refine (HCK.out).mono ?_); rintro e w1 ⟨rfl, hb⟩; have Hb1 := Lib.hid hb; have HL1 := Lib.hid ((LB.new wr B C (.slice sp ts.length sc)).below hb); obtain ⟨m0, m1, m2⟩ := HL1.out.cells; have HT1 := Lib.hid ((HT0.out.below Hb0.out).below hb); clear hb)
              | (go_at_call 16; (with_reducible refine (HCL.out _ HT1.out).mono ?_); rintro e w2 ⟨p, c, rfl, hm, ht, hb⟩; have HM := Lib.hid hm; have HT2 := Lib.hid ht; have Hb12 := Lib.hid hb; have Hb2 := Lib.hid (bTr (bTr Hb0.out Hb1.out) hb); have HL2 := Lib.hid (HL1.out.below hb); obtain ⟨n0, n1, n2⟩ := HL2.out.cells; have nz := HL2.out.frozen 2; clear hm ht hb))
            have HB2 : Below wr.heap.size wr w2 := Hb2.out
            have hbox2 := (LB.new wr B C (.slice sp ts.length sc)).below (bTr Hb1.out Hb12.out)
            generalize hW5 : w2.setCell ⟨wr.heap.size, 2, none⟩ (.slice p ts.length c) = W5
            have hbox5 : LB W5 wr.heap.size B C (.slice p ts.length c) := by rw [← hW5]; exact heap_setCell_same w2 _ 2 _ _ _ hbox2
            have hB5 : Below wr.heap.size wr W5 := by rw [← hW5]; exact HB2.setCell (Nat.le_refl _) _
            have hpos : 0 < ts.length := (chk_good HQ0.out).pos
            have hown : ∀ k, Value.ownBlock (.slice p ts.length c) = some k → w1.heap.size ≤ k := fun k e => HM.out.own hpos e
            have hw1 : wr.heap.size < w1.heap.size := by have := Hb1.out.size; simp at this; omega
            have ht5 : TArg W5 (.slice p ts.length c) ts := by rw [← hW5]; exact HT2.out.keep (by simp) fun _ k e => heap_setCell_other _ _ _ _ (by have := hown k e; simp; omega)
            have hbel5 := bAl (bRef W5.drew) (.cells #[.int .i64 B, .int .i64 C, .slice p ts.length c] 46)
            have hBA : Below wr.heap.size wr (W5.drew.alloc (.cells #[.int .i64 B, .int .i64 C, .slice p ts.length c] 46)) := (bTr hB5 (bRef _).drew).trans (hbel5.mono (by have := hB5.size; simpa using this))
            obtain ⟨v3, w3, hrun, h1, h2, h3, h4⟩ := run_append_own_at (P := Try.prog) (W5.drew.alloc (.cells #[.int .i64 B, .int .i64 C, .slice p ts.length c] 46)) (W5.drew.alloc (.cells #[.int .i64 B, .int .i64 C, .slice p ts.length c] 46)).heap.size 48 48 46 j0 _ 3 40 Try.underlying48 HJi.out HJ0.out HJ1.out HJ2.out rfl (by decide) (.slice none 0 0) 0 [] ⟨by simp, .inl ⟨rfl, rfl⟩⟩ ⟨W5.drew.heap.size, 0, none⟩ 1 1 [.int .i64 B, .int .i64 C, .slice p ts.length c] rfl (fun j u hj => by rw [add_fl]; exact row_cells (heap_alloc_one W5.drew (.cells #[.int .i64 B, .int .i64 C, .slice p ts.length c] 46)) j u hj) (by intro u hu; simp at hu; rcases hu with rfl | rfl | rfl <;> rfl) (by unfold maxLen; omega) (by omega) (Nat.le_refl _)
            have hb3 : Below (W5.drew.alloc (.cells #[.int .i64 B, .int .i64 C, .slice p ts.length c] 46)).heap.size (W5.drew.alloc (.cells #[.int .i64 B, .int .i64 C, .slice p ts.length c] 46)) w3 := ⟨h2.os, h2.tape, h2.output, h2.size, fun k hk => h2.block k hk (fun e => by simp [Value.ownBlock] at e)⟩
            have hB3 : Below wr.heap.size wr w3 := bTr hBA hb3
            have HN3 := HV.out.below hB3
            have hgl := (row_lt HV.out.row (k := g) rfl)
            have hbl := lt_of_heap HV.out.box
            have hAs : wr.heap.size < (W5.drew.alloc (.cells #[.int .i64 B, .int .i64 C, .slice p ts.length c] 46)).heap.size := by have := hB5.size; simp; omega
            have hst : ∀ W, Below W5.heap.size W5 W → W.heap[wr.heap.size]? = some (.cells #[.int .i64 B, .int .i64 C, .slice p ts.length c] 46 (0, 0)) := fun W hb => hbox5.below hb
            have hst0 := hst W5.drew (bRef _).drew
            have hstA := hst (W5.drew.alloc (.cells #[.int .i64 B, .int .i64 C, .slice p ts.length c] 46)) (bTr (bRef _).drew hbel5)
            have hst3 := hst w3 (bTr (bTr (bRef _).drew hbel5) hb3)
            have hst6 : ∀ v, (w3.setCell ⟨w.heap.size, 1, none⟩ v).heap[wr.heap.size]? = some (.cells #[.int .i64 B, .int .i64 C, .slice p ts.length c] 46 (0, 0)) := fun v => (heap_setCell_other _ _ _ _ (by simp; omega)).trans hst3
            rcases h1.2 with ⟨_, hz⟩ | ⟨h, hc, cur, rfl, hbh, hgh, hn1, _, _, _⟩
            · exact absurd hz (by omega)
            have HNG : Hid (NG w w.heap.size g cap h hc (fl0 y) B C (.slice p ts.length c) ts (w3.setCell ⟨w.heap.size, 1, none⟩ (.slice (some ⟨h, 0, none⟩) 1 hc))) := by
              have hne : h ≠ w.heap.size := by omega
              have hk : ∀ k, k ≠ w.heap.size → (w3.setCell ⟨w.heap.size, 1, none⟩ (.slice (some ⟨h, 0, none⟩) 1 hc)).heap[k]? = w3.heap[k]? := fun k hk => heap_setCell_other _ _ _ _ (by simpa using hk)
              refine Lib.hid ⟨heap_setCell_same w3 _ 1 _ _ _ HN3.box, row_keep HN3.row fun k e => hk k (by have := (row_lt HN3.row e).1; omega), ?_, ?_, ?_, ⟨hne, by omega, fun k e => ⟨by have := hown k e; omega, by have := hown k e; omega⟩⟩, ⟨hcap, by omega⟩, HN3.bel.setCell (Nat.le_refl _) _, Nat.le_refl _⟩
              · exact ⟨(cell_block (hk h hne)).trans (h1.cellAt 0 (by omega)), (cell_block (hk h hne)).trans (h1.cellAt 1 (by omega)), (cell_block (hk h hne)).trans (h1.cellAt 2 (by omega))⟩
              · exact (ht5.below (bTr (bTr (bRef _).drew hbel5) hb3)).keep (by simp) fun _ k e => hk k (by have := hown k e; omega)
              · have := lt_of_heap hgh; simpa using this
            have hbx3 := HN3.box
            have q1 : ∀ W, Below wr.heap.size wr W → W.cell? ⟨w.heap.size, 1, none⟩ = some (.slice none 0 0) := fun W hb => cell_of_row _ _ 1 _ _ _ (HV.out.box.below hb)
            have q1a := q1 W5.drew (bTr hB5 (bRef _).drew)
            have q1b := q1 _ hBA
            clear HN3 hb3 hB3 hBA hgl hbl hAs hst ht5 hown hbox2 hn1 hgh hbh h4 h3 h2 h1 hB5 HB2 hW5
            refine wp_region_held_drew (S := fun W => W.heap[wr.heap.size]? = some (.cells #[.int .i64 B, .int .i64 C, .slice p ts.length c] 46 (0, 0))) (by kernel_rfl) hst0 (fun _ => ?_)
            refine hTake (i := 0) (k := 75) (v := .pointer (some ⟨w.heap.size, 0, none⟩)) rfl rfl (by kernel_rfl) (by kernel_rfl) (by kernel_rfl) (fun _ _ _ h => h) (yieldsIf_val (by rfl) (by intro W; go_simp)) hst0 ?_
            simp only [List.setIfInBounds_toArray, List.set_cons_zero, List.set_cons_succ]
            refine hTake (i := 1) (k := 76) (v := .pointer (some ⟨w.heap.size, 0, none⟩)) rfl rfl (by kernel_rfl) (by kernel_rfl) (by kernel_rfl) (fun _ _ _ h => h) (yieldsIf_val (by rfl) (by intro W; go_simp)) hst0 ?_
            simp only [List.setIfInBounds_toArray, List.set_cons_zero, List.set_cons_succ]
            refine hTake (i := 2) (k := 77) (v := .pointer (some ⟨w.heap.size, 0, none⟩)) rfl rfl (by kernel_rfl) (by kernel_rfl) (by kernel_rfl) (fun _ _ _ h => h) (yieldsIf_val (by rfl) (by intro W; go_simp)) hst0 ?_
            simp only [List.setIfInBounds_toArray, List.set_cons_zero, List.set_cons_succ]
            refine hTake (i := 3) (k := 78) (v := .pointer (some ⟨w.heap.size, 1, none⟩)) rfl rfl (by kernel_rfl) (by kernel_rfl) (by kernel_rfl) (fun _ _ _ h => h) (yieldsIf_val (by rfl) (by intro W; go_simp)) hst0 ?_
            simp only [List.setIfInBounds_toArray, List.set_cons_zero, List.set_cons_succ]
            refine hTake (i := 5) (k := 80) (v := LV B C (.slice p ts.length c)) rfl rfl (by kernel_rfl) (by kernel_rfl) (by kernel_rfl) (fun _ _ _ h => h) (.inl ⟨by rfl, fun W hW => by have k0 := cell_of_row _ _ 0 _ _ _ hW; have k1 := cell_of_row _ _ 1 _ _ _ hW; have k2 := cell_of_row _ _ 2 _ _ _ hW; go_simp⟩) hst0 ?_
            simp only [List.setIfInBounds_toArray, List.set_cons_zero, List.set_cons_succ]
            refine hTwoS (i := 4) (j := 6) (k := 79) (m := 81) (v := .slice none 0 0) (u := .slice (some ⟨W5.drew.heap.size, 0, none⟩) 1 1) (w' := W5.drew) (w2 := (W5.drew.alloc (.cells #[.int .i64 B, .int .i64 C, .slice p ts.length c] 46))) (by kernel_rfl) rfl rfl rfl rfl (by rfl) (by rfl) (by go_simp) (bsL_op (.tmp 80) rfl rfl _) hst0 hstA ?_ ?_
            · simp only [List.setIfInBounds_toArray, List.set_cons_zero, List.set_cons_succ]
              refine hOneS (i := 6) (k := 81) (v := .slice (some ⟨W5.drew.heap.size, 0, none⟩) 1 1) (w' := (W5.drew.alloc (.cells #[.int .i64 B, .int .i64 C, .slice p ts.length c] 46))) (by kernel_rfl) rfl rfl (by rfl) (bsL_op (.tmp 80) rfl rfl _) hstA ?_
              simp only [List.setIfInBounds_toArray, List.set_cons_zero, List.set_cons_succ]
              refine hOneS (i := 7) (k := 82) (v := .slice (some ⟨h, 0, none⟩) 1 hc) (w' := w3) (by kernel_rfl) rfl rfl (by rfl) (app_op (.tmp 79) (.tmp 81) 48 rfl rfl rfl (fun _ => hrun)) hst3 ?_
              simp only [List.setIfInBounds_toArray, List.set_cons_zero, List.set_cons_succ]
              refine hTake (i := 8) (k := 83) (v := .pointer (some ⟨w.heap.size, 0, none⟩)) rfl rfl (by kernel_rfl) (by kernel_rfl) (by kernel_rfl) (fun _ _ _ h => h) (yieldsIf_val (by rfl) (by intro W; go_simp)) hst3 ?_
              simp only [List.setIfInBounds_toArray, List.set_cons_zero, List.set_cons_succ]
              refine hTake (i := 9) (k := 84) (v := .pointer (some ⟨w.heap.size, 1, none⟩)) rfl rfl (by kernel_rfl) (by kernel_rfl) (by kernel_rfl) (fun _ _ _ h => h) (yieldsIf_val (by rfl) (by intro W; go_simp)) hst3 ?_
              simp only [List.setIfInBounds_toArray, List.set_cons_zero, List.set_cons_succ]
              refine hOneNS (i := 10) (w' := w3.setCell ⟨w.heap.size, 1, none⟩ (.slice (some ⟨h, 0, none⟩) 1 hc)) (by kernel_rfl) rfl rfl (by rfl) (by have q0 := cell_of_row _ _ 1 _ _ _ hbx3; have q1 := frozen_of_row _ _ 1 _ _ hbx3; go_simp) (hst6 _) ?_
              refine wpAnyH_done (by kernel_rfl) ?_ _
              go_wp2_with fail
              go_roundw
              case rel => exact .inr ⟨by go_num, HQ0.out, g, cap, h, hc, _, HNG.out⟩
              case measure => simp [intOf]
            · simp only [List.setIfInBounds_toArray, List.set_cons_zero, List.set_cons_succ]
              refine hOneS (i := 4) (k := 79) (v := .slice none 0 0) (w' := (W5.drew.alloc (.cells #[.int .i64 B, .int .i64 C, .slice p ts.length c] 46))) (by kernel_rfl) rfl rfl (by rfl) (by have q0 : (W5.alloc (.cells #[.int .i64 B, .int .i64 C, .slice p ts.length c] 46)).cell? ⟨w.heap.size, 1, none⟩ = some (.slice none 0 0) := (show (W5.drew.alloc (.cells #[.int .i64 B, .int .i64 C, .slice p ts.length c] 46)).cell? ⟨w.heap.size, 1, none⟩ = some (.slice none 0 0) from q1b); go_simp) hstA ?_
              simp only [List.setIfInBounds_toArray, List.set_cons_zero, List.set_cons_succ]
              refine hOneS (i := 7) (k := 82) (v := .slice (some ⟨h, 0, none⟩) 1 hc) (w' := w3) (by kernel_rfl) rfl rfl (by rfl) (app_op (.tmp 79) (.tmp 81) 48 rfl rfl rfl (fun _ => hrun)) hst3 ?_
              simp only [List.setIfInBounds_toArray, List.set_cons_zero, List.set_cons_succ]
              refine hTake (i := 8) (k := 83) (v := .pointer (some ⟨w.heap.size, 0, none⟩)) rfl rfl (by kernel_rfl) (by kernel_rfl) (by kernel_rfl) (fun _ _ _ h => h) (yieldsIf_val (by rfl) (by intro W; go_simp)) hst3 ?_
              simp only [List.setIfInBounds_toArray, List.set_cons_zero, List.set_cons_succ]
              refine hTake (i := 9) (k := 84) (v := .pointer (some ⟨w.heap.size, 1, none⟩)) rfl rfl (by kernel_rfl) (by kernel_rfl) (by kernel_rfl) (fun _ _ _ h => h) (yieldsIf_val (by rfl) (by intro W; go_simp)) hst3 ?_
              simp only [List.setIfInBounds_toArray, List.set_cons_zero, List.set_cons_succ]
              refine hOneNS (i := 10) (w' := w3.setCell ⟨w.heap.size, 1, none⟩ (.slice (some ⟨h, 0, none⟩) 1 hc)) (by kernel_rfl) rfl rfl (by rfl) (by have q0 := cell_of_row _ _ 1 _ _ _ hbx3; have q1 := frozen_of_row _ _ 1 _ _ hbx3; go_simp) (hst6 _) ?_
              refine wpAnyH_done (by kernel_rfl) ?_ _
              go_wp2_with fail
              go_roundw
              case rel => exact .inr ⟨by go_num, HQ0.out, g, cap, h, hc, _, HNG.out⟩
              case measure => simp [intOf]
          · have e1 : (q != 0) = true := by simpa using hq0
            have HE := Lib.hid hq0
            clear hq0
            go_wp2_with (go_at_call 15; (with_reducible refine (HCK.out).mono ?_); rintro e w1 ⟨rfl, hb⟩; have Hb1 := Lib.hid (bTr Hb0.out hb); clear hb)
            go_ret2
            exact .inl ⟨q, HE.out, fun h => HE.out (HQ.out.symm.trans h.2), rfl, HV.out.bel.trans (Hb1.out.mono HV.out.bel.size)⟩
        · have HNG := Lib.hid hng
          have HCK := Lib.hid hck
          clear hng hck
          go_wp2_with fail
          go_loopw [88] (fun kv wz => NoRel wr kv wz) (fun _ _ => 0)
          case atStart => exact ⟨rfl, rfl⟩
          case round =>
            obtain ⟨rfl, rfl⟩ := hrel
            go_wp2_with fail
            go_ret2
            exact .inr ⟨rfl, HR1.out, HCK.out, g', cap', h, hc, sl', HNG.out⟩

end Go.Proofs.Ytpdfgdjomlogbab
