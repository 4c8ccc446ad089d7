/- Package peer: end, where nothing fails. -/
import Derived.Test.YtnfoimkiihfalaaPeEnd
namespace Go.Proofs.Ytnfoimkiihfalaa
open Go.RowKit Go.Joins

set_option maxHeartbeats 4000000 in
theorem end_all {w : World} {b g0 o0 n c0 k : Nat} {s : PS} (h : PrI w b s (.slice (some ⟨g0, o0, none⟩) n c0)) {a3 a4 t1 t2 t3 t4 R I V B D : Int} (hr : Reck a3 a4 t1 t2 t3 t4 R I V B) (hL : s.ms.length = n) {K : List (Int × Int)} (hK : Mks w (.slice (some ⟨g0, o0, none⟩) k c0) K) (hKl : K.length = k) (hK0 : K[0]? = some (a3, a4)) (hw1 : 1 ≤ s.win) (hw2 : s.win ≤ 32)
    (hn : n = k) (hnw : (n : Int) ≤ s.win) (hc0 : n ≤ c0) (e1 : s.t1 = t1) (e2 : s.t2 = t2) (e4 : s.t4 = t4) (h01 : In64 a3) (h02 : In64 a4) (h1 : In64 t1) (h2 : In64 t2) (h3 : In64 t3) (h4 : In64 t4)
    (hD : max 0 (B.tdiv 2) = D) (hs : - s.slack ≤ B) (hm : D ≤ s.most) (hsl : In64 s.slack) (hsl2 : 0 ≤ s.slack) (hB : In64 B) :
    Calls Try.prog 46 #[.pointer (some ⟨b, 0, none⟩), .int .i64 t3] w fun e w' => e = .returned (.int .i64 0) ∧ Leave b w { s with ms := K ++ [(t3, t4)], rate := R, delay := D, failed := 0, stage := 0 } w' := by
  have hk0 : 0 < k := by
    rcases Nat.eq_zero_or_pos k with e | e
    · rw [e] at hKl
      rw [List.length_eq_zero_iff.1 hKl] at hK0
      simp at hK0
    · exact e
  have hk32 : k ≤ 32 := win_le hw2 (by rw [← hn]; exact hnw)
  subst hn
  have hz : IntKind.i64.wrap ((n : Int) - s.win) = (n : Int) - s.win := sub_w (Nat.le_trans hk32 (by decide)) hw1 hw2
  have hx0 : max 0 ((n : Int) - s.win) = 0 := max_no hnw
  have hnn : wrap64 ((n : Int) + 1) = (n : Int) + 1 := wrap_s hk32
  have hn1 : decide ((1 : Int) < (n : Int) + 1) = true := one_lt_s hk0
  clear hw1 hw2 hnw
  have c4 := h.c4
  have c10 := h.c10
  have c11 := h.c11
  have hlt := h.lt
  have H := Lib.hid h
  rw [e4] at c10
  go_enter Try.func46, Try.ntmps46
  go_wp2_with fail
  have h0 : (fun V => V.cell? ⟨b, 4, none⟩ = some (.int .i64 s.win) ∧ V.cell? ⟨b, 11, none⟩ = some (.slice (some ⟨g0, o0, none⟩) n c0)) w.drew := ⟨c4, c11⟩
  refine wp_region_held_drew (S := fun V => V.cell? ⟨b, 4, none⟩ = some (.int .i64 s.win) ∧ V.cell? ⟨b, 11, none⟩ = some (.slice (some ⟨g0, o0, none⟩) n c0)) (by kernel_rfl) h0 (fun h0 => ?_)
  refine hTakeS (i := 0) (k := 10) (v := .pointer (some ⟨b, 0, none⟩)) rfl rfl (by kernel_rfl) (by kernel_rfl) (by kernel_rfl) (fun _ _ _ h => h) (yieldsIf_val (by rfl) (by intro W; go_simp)) h0 ?_
  simp only [List.setIfInBounds_toArray, List.set_cons_zero, List.set_cons_succ]
  refine hTakeS (i := 1) (k := 11) (v := .pointer (some ⟨b, 0, none⟩)) rfl rfl (by kernel_rfl) (by kernel_rfl) (by kernel_rfl) (fun _ _ _ h => h) (yieldsIf_val (by rfl) (by intro W; go_simp)) h0 ?_
  simp only [List.setIfInBounds_toArray, List.set_cons_zero, List.set_cons_succ]
  refine hTakeS (i := 2) (k := 12) (v := .pointer (some ⟨b, 11, none⟩)) rfl rfl (by kernel_rfl) (by kernel_rfl) (by kernel_rfl) (fun _ _ _ h => h) (yieldsIf_val (by rfl) (by intro W; go_simp)) h0 ?_
  simp only [List.setIfInBounds_toArray, List.set_cons_zero, List.set_cons_succ]
  refine hTakeS (i := 3) (k := 13) (v := .slice (some ⟨g0, o0, none⟩) n c0) rfl rfl (by kernel_rfl) (by kernel_rfl) (by kernel_rfl) (fun _ _ _ h => h) (.inl ⟨by rfl, fun W hW => by obtain ⟨b0, b1⟩ := hW; go_simp⟩) h0 ?_
  simp only [List.setIfInBounds_toArray, List.set_cons_zero, List.set_cons_succ]
  refine hTakeS (i := 4) (k := 14) (v := .pointer (some ⟨b, 0, none⟩)) rfl rfl (by kernel_rfl) (by kernel_rfl) (by kernel_rfl) (fun _ _ _ h => h) (yieldsIf_val (by rfl) (by intro W; go_simp)) h0 ?_
  simp only [List.setIfInBounds_toArray, List.set_cons_zero, List.set_cons_succ]
  refine hTakeS (i := 5) (k := 15) (v := .pointer (some ⟨b, 0, none⟩)) rfl rfl (by kernel_rfl) (by kernel_rfl) (by kernel_rfl) (fun _ _ _ h => h) (yieldsIf_val (by rfl) (by intro W; go_simp)) h0 ?_
  simp only [List.setIfInBounds_toArray, List.set_cons_zero, List.set_cons_succ]
  refine hTakeS (i := 6) (k := 16) (v := .pointer (some ⟨b, 11, none⟩)) rfl rfl (by kernel_rfl) (by kernel_rfl) (by kernel_rfl) (fun _ _ _ h => h) (yieldsIf_val (by rfl) (by intro W; go_simp)) h0 ?_
  simp only [List.setIfInBounds_toArray, List.set_cons_zero, List.set_cons_succ]
  refine hTakeS (i := 7) (k := 17) (v := .slice (some ⟨g0, o0, none⟩) n c0) rfl rfl (by kernel_rfl) (by kernel_rfl) (by kernel_rfl) (fun _ _ _ h => h) (.inl ⟨by rfl, fun W hW => by obtain ⟨b0, b1⟩ := hW; go_simp⟩) h0 ?_
  simp only [List.setIfInBounds_toArray, List.set_cons_zero, List.set_cons_succ]
  refine hTakeS (i := 8) (k := 18) (v := .int .i64 (n : Int)) rfl rfl (by kernel_rfl) (by kernel_rfl) (by kernel_rfl) (fun _ _ _ h => h) (yieldsIf_val (by rfl) (by intro W; go_simp)) h0 ?_
  simp only [List.setIfInBounds_toArray, List.set_cons_zero, List.set_cons_succ]
  refine hTakeS (i := 9) (k := 19) (v := .pointer (some ⟨b, 0, none⟩)) rfl rfl (by kernel_rfl) (by kernel_rfl) (by kernel_rfl) (fun _ _ _ h => h) (yieldsIf_val (by rfl) (by intro W; go_simp)) h0 ?_
  simp only [List.setIfInBounds_toArray, List.set_cons_zero, List.set_cons_succ]
  refine hTakeS (i := 10) (k := 20) (v := .pointer (some ⟨b, 0, none⟩)) rfl rfl (by kernel_rfl) (by kernel_rfl) (by kernel_rfl) (fun _ _ _ h => h) (yieldsIf_val (by rfl) (by intro W; go_simp)) h0 ?_
  simp only [List.setIfInBounds_toArray, List.set_cons_zero, List.set_cons_succ]
  refine hTakeS (i := 11) (k := 21) (v := .pointer (some ⟨b, 0, none⟩)) rfl rfl (by kernel_rfl) (by kernel_rfl) (by kernel_rfl) (fun _ _ _ h => h) (yieldsIf_val (by rfl) (by intro W; go_simp)) h0 ?_
  simp only [List.setIfInBounds_toArray, List.set_cons_zero, List.set_cons_succ]
  refine hTakeS (i := 12) (k := 22) (v := .pointer (some ⟨b, 4, none⟩)) rfl rfl (by kernel_rfl) (by kernel_rfl) (by kernel_rfl) (fun _ _ _ h => h) (yieldsIf_val (by rfl) (by intro W; go_simp)) h0 ?_
  simp only [List.setIfInBounds_toArray, List.set_cons_zero, List.set_cons_succ]
  refine hTakeS (i := 13) (k := 23) (v := .int .i64 s.win) rfl rfl (by kernel_rfl) (by kernel_rfl) (by kernel_rfl) (fun _ _ _ h => h) (.inl ⟨by rfl, fun W hW => by obtain ⟨b0, b1⟩ := hW; go_simp⟩) h0 ?_
  simp only [List.setIfInBounds_toArray, List.set_cons_zero, List.set_cons_succ]
  refine hTakeS (i := 14) (k := 24) (v := .int .i64 ((n : Int) - s.win)) rfl rfl (by kernel_rfl) (by kernel_rfl) (by kernel_rfl) (fun _ _ _ h => h) (yieldsIf_val (by rfl) (by intro W; go_simp)) h0 ?_
  simp only [List.setIfInBounds_toArray, List.set_cons_zero, List.set_cons_succ]
  refine hTakeS (i := 15) (k := 25) (v := .int .i64 0) rfl rfl (by kernel_rfl) (by kernel_rfl) (by kernel_rfl) (fun _ _ _ h => h) (yieldsIf_val (by rfl) (by intro W; go_simp)) h0 ?_
  simp only [List.setIfInBounds_toArray, List.set_cons_zero, List.set_cons_succ]
  refine hTakeS (i := 16) (k := 26) (v := .slice (some ⟨g0, o0, none⟩) n c0) rfl rfl (by kernel_rfl) (by kernel_rfl) (by kernel_rfl) (fun _ _ _ h => h) (yieldsIf_val (by rfl) (by intro W; go_simp)) h0 ?_
  simp only [List.setIfInBounds_toArray, List.set_cons_zero, List.set_cons_succ]
  refine hTakeS (i := 17) (k := 5) (v := .slice (some ⟨g0, o0, none⟩) n c0) rfl rfl (by kernel_rfl) (by kernel_rfl) (by kernel_rfl) (fun _ _ _ h => h) (yieldsIf_val (by rfl) (by intro W; go_simp)) h0 ?_
  simp only [List.setIfInBounds_toArray, List.set_cons_zero, List.set_cons_succ]
  refine wpAnyH_done (by kernel_rfl) ?_ _
  obtain ⟨b4, b11⟩ := h0
  go_wp2_with fail
  have h0 : (fun V => V.cell? ⟨b, 10, none⟩ = some (.int .i64 t4)) w.drew.drew := c10
  refine wp_region_held_drew (S := fun V => V.cell? ⟨b, 10, none⟩ = some (.int .i64 t4)) (by kernel_rfl) h0 (fun h0 => ?_)
  refine hTakeS (i := 0) (k := 27) (v := .slice (some ⟨g0, o0, none⟩) n c0) rfl rfl (by kernel_rfl) (by kernel_rfl) (by kernel_rfl) (fun _ _ _ h => h) (yieldsIf_val (by rfl) (by intro W; go_simp)) h0 ?_
  simp only [List.setIfInBounds_toArray, List.set_cons_zero, List.set_cons_succ]
  refine hTakeS (i := 1) (k := 28) (v := .slice (some ⟨g0, o0, none⟩) n c0) rfl rfl (by kernel_rfl) (by kernel_rfl) (by kernel_rfl) (fun _ _ _ h => h) (yieldsIf_val (by rfl) (by intro W; go_simp)) h0 ?_
  simp only [List.setIfInBounds_toArray, List.set_cons_zero, List.set_cons_succ]
  refine hTakeS (i := 2) (k := 29) (v := .int .i64 (n : Int)) rfl rfl (by kernel_rfl) (by kernel_rfl) (by kernel_rfl) (fun _ _ _ h => h) (yieldsIf_val (by rfl) (by intro W; go_simp)) h0 ?_
  simp only [List.setIfInBounds_toArray, List.set_cons_zero, List.set_cons_succ]
  refine hTakeS (i := 3) (k := 30) (v := .slice (some ⟨g0, o0, none⟩) n c0) rfl rfl (by kernel_rfl) (by kernel_rfl) (by kernel_rfl) (fun _ _ _ h => h) (yieldsIf_val (by rfl) (by intro W; go_simp)) h0 ?_
  simp only [List.setIfInBounds_toArray, List.set_cons_zero, List.set_cons_succ]
  refine hTakeS (i := 4) (k := 31) (v := .int .i64 (n : Int)) rfl rfl (by kernel_rfl) (by kernel_rfl) (by kernel_rfl) (fun _ _ _ h => h) (yieldsIf_val (by rfl) (by intro W; go_simp)) h0 ?_
  simp only [List.setIfInBounds_toArray, List.set_cons_zero, List.set_cons_succ]
  refine hTakeS (i := 5) (k := 32) (v := .slice (some ⟨g0, o0, none⟩) n n) rfl rfl (by kernel_rfl) (by kernel_rfl) (by kernel_rfl) (fun _ _ _ h => h) (yieldsIf_val (by rfl) (by intro W; go_simp)) h0 ?_
  simp only [List.setIfInBounds_toArray, List.set_cons_zero, List.set_cons_succ]
  refine hTakeS (i := 6) (k := 33) (v := .int .i64 t3) rfl rfl (by kernel_rfl) (by kernel_rfl) (by kernel_rfl) (fun _ _ _ h => h) (yieldsIf_val (by rfl) (by intro W; go_simp)) h0 ?_
  simp only [List.setIfInBounds_toArray, List.set_cons_zero, List.set_cons_succ]
  refine hTakeS (i := 7) (k := 34) (v := .pointer (some ⟨b, 0, none⟩)) rfl rfl (by kernel_rfl) (by kernel_rfl) (by kernel_rfl) (fun _ _ _ h => h) (yieldsIf_val (by rfl) (by intro W; go_simp)) h0 ?_
  simp only [List.setIfInBounds_toArray, List.set_cons_zero, List.set_cons_succ]
  refine hTakeS (i := 8) (k := 35) (v := .pointer (some ⟨b, 0, none⟩)) rfl rfl (by kernel_rfl) (by kernel_rfl) (by kernel_rfl) (fun _ _ _ h => h) (yieldsIf_val (by rfl) (by intro W; go_simp)) h0 ?_
  simp only [List.setIfInBounds_toArray, List.set_cons_zero, List.set_cons_succ]
  refine hTakeS (i := 9) (k := 36) (v := .pointer (some ⟨b, 10, none⟩)) rfl rfl (by kernel_rfl) (by kernel_rfl) (by kernel_rfl) (fun _ _ _ h => h) (yieldsIf_val (by rfl) (by intro W; go_simp)) h0 ?_
  simp only [List.setIfInBounds_toArray, List.set_cons_zero, List.set_cons_succ]
  refine hTakeS (i := 10) (k := 37) (v := .int .i64 t4) rfl rfl (by kernel_rfl) (by kernel_rfl) (by kernel_rfl) (fun _ _ _ h => h) (.inl ⟨by rfl, fun W hW => by go_simp⟩) h0 ?_
  simp only [List.setIfInBounds_toArray, List.set_cons_zero, List.set_cons_succ]
  refine hTakeS (i := 11) (k := 38) (v := .agg #[.int .i64 t3, .int .i64 t4]) rfl rfl (by kernel_rfl) (by kernel_rfl) (by kernel_rfl) (fun _ _ _ h => h) (yieldsIf_val (by rfl) (by intro W; go_simp)) h0 ?_
  simp only [List.setIfInBounds_toArray, List.set_cons_zero, List.set_cons_succ]
  have hbA : Below w.heap.size w (w.drew.drew.alloc (Obj.cells #[Value.int .i64 t3, Value.int .i64 t4] 87)) := bAl (bDr1 (bDr1 (bRef w))) _
  obtain ⟨g, c, W3, hrun, hm3, hb3⟩ := Mks.app ((hK.cap hKl.symm).below hbA) hKl.symm (t3, t4) ⟨w.heap.size, 0, none⟩ (two_cells w.drew.drew t3 t4) (Nat.lt_of_le_of_lt hk32 (by decide))
  have hc10 := (hb3.cell (p := ⟨b, 10, none⟩) (Nat.lt_of_lt_of_le hlt hbA.size)).trans ((hbA.cell (p := ⟨b, 10, none⟩) hlt).trans c10)
  refine hOneS (i := 12) (k := 39) (v := .slice (some ⟨w.heap.size, 0, none⟩) 1 1) (w' := (w.drew.drew.alloc (Obj.cells #[Value.int .i64 t3, Value.int .i64 t4] 87))) (by kernel_rfl) rfl rfl (by rfl) (by go_simp) ((hbA.cell (p := ⟨b, 10, none⟩) hlt).trans c10) ?_
  simp only [List.setIfInBounds_toArray, List.set_cons_zero, List.set_cons_succ]
  refine hOneS (i := 13) (k := 40) (v := .slice (some ⟨g, 0, none⟩) (n + 1) c) (w' := W3) (by kernel_rfl) rfl rfl (by rfl) (app_op (.tmp 32) (.tmp 39) 72 rfl rfl rfl hrun) hc10 ?_
  simp only [List.setIfInBounds_toArray, List.set_cons_zero, List.set_cons_succ]
  refine hOneS (i := 14) (k := 6) (v := .slice (some ⟨g, 0, none⟩) (n + 1) c) (w' := W3) (by kernel_rfl) rfl rfl (by rfl) (by go_simp) hc10 ?_
  simp only [List.setIfInBounds_toArray, List.set_cons_zero, List.set_cons_succ]
  refine wpAnyH_done (by kernel_rfl) ?_ _
  have hB3 := hbA.trans (hb3.mono hbA.size)
  have hp3 := H.out.below hB3
  have hx0 : (K ++ [(t3, t4)])[0]? = some (a3, a4) := by rw [List.getElem?_append_left (by rw [hKl]; exact hk0)]; exact hK0
  have hxk : (K ++ [(t3, t4)])[n]? = some (t3, t4) := by rw [List.getElem?_append_right (by rw [hKl]; exact Nat.le_refl _), hKl, Nat.sub_self]; rfl
  obtain ⟨m0, m1⟩ := hm3.at0 hx0
  obtain ⟨l0, l1⟩ := hm3.at0 hxk
  rw [Nat.zero_mul] at m0 m1
  have HRk := Lib.hid (reckon_ok hr (w := W3) (b := b) (g := g) (k := n) (c := c) ⟨_, hp3⟩ e1 e2 e4 h01 h02 h1 h2 h3 h4 (Nat.lt_of_le_of_lt hk32 (by decide)) m0 m1 l0 l1 hD hs hm hsl hsl2 hB)
  have HP3 := Lib.hid hp3
  have HB3 := Lib.hid hB3
  have HM3 := Lib.hid hm3
  clear hp3 hB3 hm3 hb3 hrun hbA hc10 m0 m1 l0 l1 hx0 hxk hr hD hs hm hsl hsl2 hB h01 h02 h1 h2 h3 h4 e1 e2 e4 hK hK0 hL
  go_wp2_with (go_at_call 55; (with_reducible refine HRk.out.mono ?_); rintro e w4 ⟨rfl, hb⟩; have hp4 := HP3.out.below hb; have hm4 := HM3.out.below hb; have k7 := hp4.c7; have k11 := hp4.c11; have k12 := hp4.c12; have k13 := hp4.c13; have k14 := hp4.c14; have kf := hp4.fz; have s1 := hp4.set 12 (.int .i64 R) (s' := { s with rate := R }) rfl hp4.mks; have s2 := s1.set 13 (.int .i64 D) (s' := { s with rate := R, delay := D }) rfl s1.mks; have s3 := s2.set 11 (.slice (some ⟨g, 0, none⟩) (n + 1) c) (s' := { s with ms := K ++ [(t3, t4)], rate := R, delay := D }) rfl ((hm4.setp hp4.box 12 _).setp s1.box 13 _); have s4 := s3.set 14 (.int .i64 0) (s' := { s with ms := K ++ [(t3, t4)], rate := R, delay := D, failed := 0 }) rfl s3.mks; have HF := Lib.hid (s4.set 7 (.int .i64 0) (s' := { s with ms := K ++ [(t3, t4)], rate := R, delay := D, failed := 0, stage := 0 }) rfl s4.mks); have HG := Lib.hid (set_but (set_but (set_but (set_but (set_but ((ButB.of_below (b := b) HB3.out).trans (ButB.of_below (b := b) hb)) 12 (.int .i64 R)) 13 (.int .i64 D)) 11 (.slice (some ⟨g, 0, none⟩) (n + 1) c)) 14 (.int .i64 0)) 7 (.int .i64 0)); clear hb hp4 hm4 s1 s2 s3 s4)
  go_ret
  exact ⟨rfl, ⟨_, HF.out⟩, HG.out⟩

end Go.Proofs.Ytnfoimkiihfalaa
