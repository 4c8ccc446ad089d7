/- Package sieve: New, of streams alone: the walk. -/
import Derived.Test.YtpdfgdjomlogbabSvNew
namespace Go.Proofs.Ytpdfgdjomlogbab
open Go.RowKit Go.Joins

def NwRel (w : World) (L : List Sm) (kv : Value) (W : World) : Prop :=
  ∃ k : Nat, k ≤ L.length ∧ kv = .int .i64 (k : Int) ∧ (∀ i, i < k → Right (L.getD i default) 0 0) ∧ ∃ v, NS w w.heap.size v (fls L k) 0 W
def NwOk (w : World) (L : List Sm) (e : Ending) (w' : World) : Prop :=
  (AllR L → e = .returned (.tuple #[.pointer (some ⟨w.heap.size, 0, none⟩), .int .i64 0]) ∧ ∃ v, NS w w.heap.size v (L.map fl0) 0 w') ∧ (¬ AllR L → e = .returned (.tuple #[.pointer none, .int .i64 1])) ∧ Below w.heap.size w w'
def NoRel (w0 : World) (kv : Value) (wr : World) : Prop := kv = .int .i64 0 ∧ wr = w0
theorem nw_next {w W : World} {L : List Sm} {n k : Nat} {x : Sm} {kv : Value} {p : Option Addr} {m c : Nat} (hn : L.length = n) (g : k < n) (hr : ∀ i, i < k → Right (L.getD i default) 0 0) (hx : L.getD k default = x) (hR : Right x 0 0) (hkv : kv = .int .i64 ((k + 1 : Nat) : Int)) (hN : NS w w.heap.size (.slice p m c) (fls L k ++ [fl0 x]) 0 W) : NwRel w L kv W := by
  refine ⟨k + 1, by omega, hkv, fun i hi => ?_, .slice p m c, ?_⟩
  · rcases Nat.lt_or_ge i k with q | q
    · exact hr i q
    · rw [show i = k by omega, hx]; exact hR
  · rw [fls_succ L (by omega), hx]; exact hN
set_option maxHeartbeats 4000000 in
theorem newS_any {v : Value} {L : List Sm} {w : World} (now : Int) (h : SmArg w v L) (hl : L.length ≤ 64) :
    Calls Try.prog 8 #[v, .slice none 0 0, .slice none 0 0, .int .i64 now] w fun e w' => NwOk w L e w' := by
  have HA := Lib.hid h
  obtain ⟨p, c, rfl⟩ := h.slice
  obtain ⟨n, hn⟩ : ∃ n, L.length = n := ⟨_, rfl⟩
  have HN := Lib.hid hn
  rw [hn] at HA hl ⊢
  have d1 : decide ((64 : Int) < (n : Int)) = false := decide_eq_false (by omega)
  have HI : Hid (NS w w.heap.size (.slice none 0 0) (fls L 0) 0 (w.alloc (.cells #[.slice none 0 0, .slice none 0 0, .slice none 0 0, .int .i64 0] 55))) := Lib.hid ⟨heap_alloc_one w _, ⟨by simp [fls, fv], .inl ⟨rfl, rfl⟩⟩, bAl (bRef w) _, Nat.le_refl _⟩
  obtain ⟨i0, hi, hz0, hz1, hz2⟩ := info_parts Try.infoFl
  have HIi := Lib.hid hi
  have HZ0 := Lib.hid hz0
  have HZ1 := Lib.hid hz1
  have HZ2 := Lib.hid hz2
  clear h hn hi hz0 hz1 hz2
  go_enter Try.func8, Try.ntmps8
  go_wp2_with fail
  go_loopw [37] (fun kv wr => NwRel w L kv wr) (fun kv _ => n - (intOf kv).toNat)
  case atStart => exact ⟨0, by omega, rfl, fun i hi => by omega, _, HI.out⟩
  case round =>
    clear HI
    obtain ⟨k, hk, rfl, hr, vv, hS⟩ := hrel
    rw [HN.out] at hk
    have HR := Lib.hid hr
    have HS := Lib.hid hS
    rcases Nat.lt_or_ge k n with g | g
    · have hd : decide ((k : Int) < (n : Int)) = true := decide_eq_true (by omega)
      have hkl : k < L.length := by rw [HN.out]; exact g
      rcases HA.out.below hS.bel with ⟨e, _⟩ | ⟨h0, gg, oo, cap, e, hg, hcp, hcl⟩
      · rw [e] at hkl; simp at hkl
      rw [HN.out] at e hcp
      injection e with e1 _ e3
      subst e1 e3
      have HX := Lib.hid (hcl k hkl)
      obtain ⟨x, hx⟩ : ∃ x, L.getD k default = x := ⟨_, rfl⟩
      have HXE := Lib.hid hx
      rw [hx] at HX
      have HRI := Lib.hid (isRight_any x 0 0)
      have HB1 := Lib.hid (bAl (bRef wr) (.cells (SA x) 28))
      have HS1 := Lib.hid (hS.below HB1.out)
      have HST : Hid (NStep w.heap.size wr.heap.size vv x (wr.alloc (.cells (SA x) 28))) := Lib.hid ⟨HS1.out.box, heap_alloc_one wr _⟩
      have HSZ := Lib.hid (lt_of_heap hS.box)
      by_cases hright : Right x 0 0
      · have d2 : decide (Right x 0 0) = true := decide_eq_true hright
        rw [d2] at HRI
        have HRR := Lib.hid hright
        obtain ⟨p1, c1, rfl⟩ := row_form hS.row
        clear hr hS hcl hx hright hg d2
        go_upto_region 9 with (first
          | (with_reducible refine at_storeSm ?_; refine wpList_storeSm rfl _ _ rfl x _ rfl rfl rfl ?_)
          | (with_reducible refine at_loadSm ?_; first | refine wpList_loadSm rfl _ rfl gg (oo + k * 14) rfl x HX.out ?_ | refine wpList_loadSm rfl _ rfl wr.heap.size 0 rfl x (row_cells HST.out.st) ?_)
          | (go_at_call 14; (with_reducible refine (HRI.out _ (by omega) (by omega)).mono ?_); rintro e w1 ⟨rfl, hb⟩; have HS2 := Lib.hid (HS1.out.below hb); have HST2 := Lib.hid (HST.out.below hb); have HSZ2 := Lib.hid hb.size; clear hb))
        have HSD := HS2.out.below (bRef _).drew
        have HT0 := HST2.out.below (bRef _).drew
        refine wp_region_held_drew (S := fun W => W.heap[wr.heap.size]? = some (.cells (SA x) 28 (0, 0))) (by kernel_rfl) HT0.st (fun _ => ?_)
        refine hTake (i := 0) (k := 48) (v := .pointer (some ⟨w.heap.size, 0, none⟩)) rfl rfl (by kernel_rfl) (by kernel_rfl) (by kernel_rfl) (fun _ _ _ h => h) (yieldsIf_val (by rfl) (by intro W; go_simp)) HT0.st ?_
        simp only [List.setIfInBounds_toArray, List.set_cons_zero, List.set_cons_succ]
        refine hTake (i := 1) (k := 49) (v := .pointer (some ⟨w.heap.size, 0, none⟩)) rfl rfl (by kernel_rfl) (by kernel_rfl) (by kernel_rfl) (fun _ _ _ h => h) (yieldsIf_val (by rfl) (by intro W; go_simp)) HT0.st ?_
        simp only [List.setIfInBounds_toArray, List.set_cons_zero, List.set_cons_succ]
        refine hTake (i := 2) (k := 50) (v := .pointer (some ⟨w.heap.size, 0, none⟩)) rfl rfl (by kernel_rfl) (by kernel_rfl) (by kernel_rfl) (fun _ _ _ h => h) (yieldsIf_val (by rfl) (by intro W; go_simp)) HT0.st ?_
        simp only [List.setIfInBounds_toArray, List.set_cons_zero, List.set_cons_succ]
        refine hTake (i := 3) (k := 51) (v := .pointer (some ⟨w.heap.size, 0, none⟩)) rfl rfl (by kernel_rfl) (by kernel_rfl) (by kernel_rfl) (fun _ _ _ h => h) (yieldsIf_val (by rfl) (by intro W; go_simp)) HT0.st ?_
        simp only [List.setIfInBounds_toArray, List.set_cons_zero, List.set_cons_succ]
        refine hTake (i := 5) (k := 53) (v := .agg (SA x)) rfl rfl (by kernel_rfl) (by kernel_rfl) (by kernel_rfl) (fun _ _ _ h => h) (.inl ⟨by rfl, fun W hW => load_op (.tmp 12) rfl rfl W hW⟩) HT0.st ?_
        simp only [List.setIfInBounds_toArray, List.set_cons_zero, List.set_cons_succ]
        refine hTake (i := 6) (k := 54) (v := .agg (FA (fl0 x))) rfl rfl (by kernel_rfl) (by kernel_rfl) (by kernel_rfl) (fun _ _ _ h => h) (yieldsIf_val (by rfl) (fun W => build_op (.tmp 53) rfl rfl W)) HT0.st ?_
        simp only [List.setIfInBounds_toArray, List.set_cons_zero, List.set_cons_succ]
        have HS3 := HSD.below (bAl (bRef w1.drew) (.cells (FA (fl0 x)) 58))
        have HT3 := HT0.below (bAl (bRef w1.drew) (.cells (FA (fl0 x)) 58))
        have hst3 := HT3.st
        have HLK := Lib.hid (fls_len L (show k ≤ L.length by omega))
        obtain ⟨v3, w3, hrun, h1, h2, h3, h4⟩ := run_append_own_at (P := Try.prog) (w1.drew.alloc (.cells (FA (fl0 x)) 58)) (w.heap.size + 1) 52 52 58 i0 _ 21 120 Try.underlying52 HIi.out HZ0.out HZ1.out HZ2.out rfl (by decide) _ _ _ HS3.row ⟨w1.drew.heap.size, 0, none⟩ 1 1 (FA (fl0 x)).toList rfl (fun j u hj => by rw [add_fl]; exact row_cells (heap_alloc_one w1.drew (.cells (FA (fl0 x)) 58)) j u hj) (fv_one (fl0 x)) (by rw [HLK.out]; unfold maxLen; omega) (by rw [HLK.out]; omega) (by have := lt_of_heap HS3.box; omega)
        have hgr := HS3.grow h1 h2 (lt_of_heap HS3.box)
        have hst4 : w3.heap[wr.heap.size]? = some (.cells (SA x) 28 (0, 0)) := (h2.block _ (lt_of_heap hst3) (fun e => own_ne HS3.row hst3 e.symm)).trans hst3
        have hst5 : (w3.setCell ⟨w.heap.size, 0, none⟩ (v3)).heap[wr.heap.size]? = some (.cells (SA x) 28 (0, 0)) := (heap_setCell_other _ _ _ _ (by have := HSZ.out; simp; omega)).trans hst4
        obtain ⟨p3, c3, hv3⟩ := row_form h1
        subst hv3
        have HN3 := Lib.hid hgr.2.1
        have hbx3 := hgr.1
        refine hTwoS (i := 4) (j := 7) (k := 52) (m := 55) (v := .slice p1 (fls L k).length c1) (u := .slice (some ⟨w1.drew.heap.size, 0, none⟩) 1 1) (w' := w1.drew) (w2 := w1.drew.alloc (.cells (FA (fl0 x)) 58)) (by kernel_rfl) rfl rfl rfl rfl (by rfl) (by rfl) (by have q0 := NStep.cell HT0; go_simp) (bs_op (.tmp 54) rfl rfl _) HT0.st hst3 ?_ ?_
        · simp only [List.setIfInBounds_toArray, List.set_cons_zero, List.set_cons_succ]
          refine hOneS (i := 7) (k := 55) (v := .slice (some ⟨w1.drew.heap.size, 0, none⟩) 1 1) (w' := w1.drew.alloc (.cells (FA (fl0 x)) 58)) (by kernel_rfl) rfl rfl (by rfl) (bs_op (.tmp 54) rfl rfl _) hst3 ?_
          simp only [List.setIfInBounds_toArray, List.set_cons_zero, List.set_cons_succ]
          refine hOneS (i := 8) (k := 56) (v := .slice p3 ((fls L k).length + 1) c3) (w' := w3) (by kernel_rfl) rfl rfl (by rfl) (app_op (.tmp 52) (.tmp 55) 52 rfl rfl rfl (fun _ => hrun)) hst4 ?_
          simp only [List.setIfInBounds_toArray, List.set_cons_zero, List.set_cons_succ]
          refine hTake (i := 9) (k := 57) (v := .pointer (some ⟨w.heap.size, 0, none⟩)) rfl rfl (by kernel_rfl) (by kernel_rfl) (by kernel_rfl) (fun _ _ _ h => h) (yieldsIf_val (by rfl) (by intro W; go_simp)) hst4 ?_
          simp only [List.setIfInBounds_toArray, List.set_cons_zero, List.set_cons_succ]
          refine hTake (i := 10) (k := 58) (v := .pointer (some ⟨w.heap.size, 0, none⟩)) rfl rfl (by kernel_rfl) (by kernel_rfl) (by kernel_rfl) (fun _ _ _ h => h) (yieldsIf_val (by rfl) (by intro W; go_simp)) hst4 ?_
          simp only [List.setIfInBounds_toArray, List.set_cons_zero, List.set_cons_succ]
          refine hOneNS (i := 11) (w' := w3.setCell ⟨w.heap.size, 0, none⟩ (.slice p3 ((fls L k).length + 1) c3)) (by kernel_rfl) rfl rfl (by rfl) (by have q0 := cell_of_row _ _ 0 _ _ _ hbx3; have q1 := frozen_of_row _ _ 0 _ _ hbx3; go_simp) hst5 ?_
          refine wpAnyH_done (by kernel_rfl) ?_ _
          go_wp2_with fail
          go_roundw
          case rel => exact nw_next HN.out g HR.out HXE.out HRR.out (by go_num) HN3.out
          case measure => simp [intOf]; omega
        · simp only [List.setIfInBounds_toArray, List.set_cons_zero, List.set_cons_succ]
          refine hOneS (i := 4) (k := 52) (v := .slice p1 (fls L k).length c1) (w' := w1.drew.alloc (.cells (FA (fl0 x)) 58)) (by kernel_rfl) rfl rfl (by rfl) (by have q0 : (w1.alloc (.cells (FA (fl0 x)) 58)).cell? ⟨w.heap.size, 0, none⟩ = some (.slice p1 (fls L k).length c1) := (show (w1.drew.alloc (.cells (FA (fl0 x)) 58)).cell? ⟨w.heap.size, 0, none⟩ = some (.slice p1 (fls L k).length c1) from NStep.cell HT3); go_simp) hst3 ?_
          simp only [List.setIfInBounds_toArray, List.set_cons_zero, List.set_cons_succ]
          refine hOneS (i := 8) (k := 56) (v := .slice p3 ((fls L k).length + 1) c3) (w' := w3) (by kernel_rfl) rfl rfl (by rfl) (app_op (.tmp 52) (.tmp 55) 52 rfl rfl rfl (fun _ => hrun)) hst4 ?_
          simp only [List.setIfInBounds_toArray, List.set_cons_zero, List.set_cons_succ]
          refine hTake (i := 9) (k := 57) (v := .pointer (some ⟨w.heap.size, 0, none⟩)) rfl rfl (by kernel_rfl) (by kernel_rfl) (by kernel_rfl) (fun _ _ _ h => h) (yieldsIf_val (by rfl) (by intro W; go_simp)) hst4 ?_
          simp only [List.setIfInBounds_toArray, List.set_cons_zero, List.set_cons_succ]
          refine hTake (i := 10) (k := 58) (v := .pointer (some ⟨w.heap.size, 0, none⟩)) rfl rfl (by kernel_rfl) (by kernel_rfl) (by kernel_rfl) (fun _ _ _ h => h) (yieldsIf_val (by rfl) (by intro W; go_simp)) hst4 ?_
          simp only [List.setIfInBounds_toArray, List.set_cons_zero, List.set_cons_succ]
          refine hOneNS (i := 11) (w' := w3.setCell ⟨w.heap.size, 0, none⟩ (.slice p3 ((fls L k).length + 1) c3)) (by kernel_rfl) rfl rfl (by rfl) (by have q0 := cell_of_row _ _ 0 _ _ _ hbx3; have q1 := frozen_of_row _ _ 0 _ _ hbx3; go_simp) hst5 ?_
          refine wpAnyH_done (by kernel_rfl) ?_ _
          go_wp2_with fail
          go_roundw
          case rel => exact nw_next HN.out g HR.out HXE.out HRR.out (by go_num) HN3.out
          case measure => simp [intOf]; omega
      · have d2 : decide (Right x 0 0) = false := decide_eq_false hright
        rw [d2] at HRI
        have HE : Hid (¬ AllR L) := Lib.hid (fun h => hright (by have := h k hkl; rwa [hx] at this))
        clear hr hS hcl hx hright hg d2
        go_wp2_with (first
          | (with_reducible refine at_storeSm ?_; refine wpList_storeSm rfl _ _ rfl x _ rfl rfl rfl ?_)
          | (with_reducible refine at_loadSm ?_; first | refine wpList_loadSm rfl _ rfl gg (oo + k * 14) rfl x HX.out ?_ | refine wpList_loadSm rfl _ rfl wr.heap.size 0 rfl x (row_cells HST.out.st) ?_)
          | (go_at_call 14; (with_reducible refine (HRI.out _ (by omega) (by omega)).mono ?_); rintro e w1 ⟨rfl, hb⟩; have HB2 := Lib.hid (bTr HS1.out.bel hb); clear hb))
        go_ret2
        exact ⟨fun h => absurd h HE.out, fun _ => rfl, HB2.out⟩
    · obtain rfl : k = n := by omega
      have hd : decide ((k : Int) < (k : Int)) = false := decide_eq_false (by omega)
      have HE : Hid (AllR L) := Lib.hid (fun i hi => hr i (by rw [← HN.out]; exact hi))
      have HV : Hid (NS w w.heap.size vv (L.map fl0) 0 wr) := Lib.hid (by rw [show L.map fl0 = fls L k from by unfold fls; rw [List.take_of_length_le (by rw [HN.out]; exact Nat.le_refl _)]]; exact hS)
      clear hr hS HS HR
      go_wp2_with fail
      go_loopw [62] (fun kv wz => NoRel wr kv wz) (fun _ _ => 0)
      case atStart => exact ⟨rfl, rfl⟩
      case round =>
        obtain ⟨rfl, rfl⟩ := hrel
        go_wp2_with fail
        go_loopw [88] (fun kv wz => NoRel wr kv wz) (fun _ _ => 0)
        case atStart => exact ⟨rfl, rfl⟩
        case round =>
          obtain ⟨rfl, rfl⟩ := hrel
          go_wp2_with fail
          go_ret2
          exact ⟨fun _ => ⟨rfl, _, HV.out⟩, fun h => absurd HE.out h, HV.out.bel⟩

end Go.Proofs.Ytpdfgdjomlogbab
