/- For any list of clocks BestFirst answers true: the first of the best of them. No condition. -/
import Derived.Test.YtihddpoaemhlnaaFBestFirst
import Derived.Test.YtihddpoaemhlnaaBtFirst
namespace Go.Proofs.Ytihddpoaemhlnaa
open Go.RowKit Go.Joins Go.Deep

def exG (k : Nat) : Pri := if k = 0 then ⟨2, 0, 0, 0⟩ else ⟨1, 0, 0, 0⟩
theorem exG_arg {W : World} {g : Nat} {t : TypeId} (h : W.heap[g]? = some (.cells #[.int .i64 2, .int .i64 0, .int .i64 0, .int .i64 0, .int .i64 1, .int .i64 0, .int .i64 0, .int .i64 0] t (0, 0))) : PArg W (.slice (some ⟨g, 0, none⟩) 2 2) 2 exG := by
  refine .inr ⟨by omega, g, 0, 2, rfl, lt_of_heap h, fun k hk => ?_⟩
  rcases (show k = 0 ∨ k = 1 by omega) with rfl | rfl
  all_goals
    refine range_of_row h _ _ (fun j v hj => ?_)
    have hl : j < 4 := by have := (List.getElem?_eq_some_iff.1 hj).1; simpa [PC] using this
    rcases (show j = 0 ∨ j = 1 ∨ j = 2 ∨ j = 3 by omega) with rfl | rfl | rfl | rfl <;> exact hj
theorem exG_fst : fstI (fst exG 2) = 1 := by kernel_rfl
def FlRel (w : World) (n : Nat) (iv : Value) (wr : World) : Prop := ∃ k : Nat, k ≤ n ∧ iv = .int .i64 (k : Int) ∧ Below w.heap.size w wr
set_option maxRecDepth 20000 in
set_option maxHeartbeats 4000000 in
theorem bestFirst_any {w : World} {v : Value} {n : Nat} {G : Nat → Pri} (hA : PArg w v n G) : Calls Try.prog 6 #[v] w fun e w' => e = .returned (.bool true) ∧ Below w.heap.size w w' := by
  obtain ⟨a, c, rfl⟩ := hA.slice
  have HA := Lib.hid hA
  have HEx := Lib.hid (fun (W : World) (g : Nat) (h : g = W.heap.size) => first_any (w := W.alloc (.cells #[.int .i64 2, .int .i64 0, .int .i64 0, .int .i64 0, .int .i64 1, .int .i64 0, .int .i64 0, .int .i64 0] 23)) (exG_arg (g := g) (t := 23) (by subst h; exact heap_alloc_new _ _)) (by decide))
  rw [exG_fst] at HEx
  rcases Nat.lt_or_ge 60 n with g60 | g60
  · have hd : decide ((60 : Int) < (n : Int)) = true := decide_eq_true (by omega)
    clear hA
    go_enter Try.func6, Try.ntmps6
    go_wp2_with (go_at_call 20; (with_reducible refine (HEx.out _ _ (by simp)).mono ?_); rintro e w1 ⟨rfl, hb⟩)
    go_ret
    exact ⟨rfl, bTr (bAl (bRef w) _) hb⟩
  have hd60 : decide ((60 : Int) < (n : Int)) = false := decide_eq_false (by omega)
  have HN := Lib.hid g60
  have HF := Lib.hid (fun W (hb : Below w.heap.size w W) => first_any (hA.below hb) (Nat.le_trans g60 (by decide)))
  clear hA g60
  rcases Nat.eq_zero_or_pos n with rfl | h0
  · rw [show fstI (fst G 0) = -1 from rfl] at HF
    go_enter Try.func6, Try.ntmps6
    go_wp2_with (first
      | (go_at_call 20; (with_reducible refine (HEx.out _ _ (by simp)).mono ?_); rintro e w1 ⟨rfl, hb⟩; have HB1 := Lib.hid (bTr (bAl (bRef w) _) hb); clear hb)
      | (go_at_call 20; (with_reducible refine (HF.out _ HB1.out).mono ?_); rintro e w2 ⟨rfl, hb⟩; have HB2 := Lib.hid (bTr HB1.out hb); clear hb))
    go_ret
    exact ⟨rfl, HB2.out⟩
  obtain ⟨f, h1, h2, h3⟩ := fst_spec G n h0
  rw [h1] at HF
  have HSp := Lib.hid h3
  have HL := Lib.hid h2
  have hn0 : ((n : Int) == 0) = false := by rw [beq_eq_false_iff_ne]; omega
  have hf0 : decide ((f : Int) < 0) = false := decide_eq_false (by omega)
  have hfn : decide ((n : Int) ≤ (f : Int)) = false := decide_eq_false (by omega)
  have hfz : ¬ (f : Int) < 0 := by omega
  have hnf : ¬ (n : Int) ≤ (f : Int) := by omega
  unfold fstI at HF
  clear h1 h2 h3 h0
  go_enter Try.func6, Try.ntmps6
  go_wp2_with (first
    | (go_at_call 20; (with_reducible refine (HEx.out _ _ (by simp)).mono ?_); rintro e w1 ⟨rfl, hb⟩; have HB1 := Lib.hid (bTr (bAl (bRef w) _) hb); clear hb)
    | (go_at_call 20; (with_reducible refine (HF.out _ HB1.out).mono ?_); rintro e w2 ⟨rfl, hb⟩; have HB2 := Lib.hid (bTr HB1.out hb); clear hb))
  go_loopw [32] (fun iv wr => FlRel w n iv wr) (fun iv _ => n - (intOf iv).toNat)
  case atStart => exact ⟨0, by omega, rfl, HB2.out⟩
  case round =>
    clear HB1 HB2 HF HEx hd60
    obtain ⟨k, hk, rfl, hb⟩ := hrel
    have HB := Lib.hid hb
    clear hb
    have hn := HN.out
    rcases Nat.lt_or_ge k n with g | g
    · have hd : decide ((k : Int) < (n : Int)) = true := decide_eq_true (by omega)
      have hf := HL.out
      obtain ⟨b, o, rfl, hlt, hall⟩ := HA.out.at (by omega)
      have HR := Lib.hid (range_below (hall k g) HB.out hlt)
      have HU := Lib.hid (fun W (hb : Below w.heap.size w W) => range_below (hall f hf) hb hlt)
      have H0 : Hid (LF w (G k) wr.heap.size (wr.alloc (.cells (PC (G k)) 23))) := Lib.hid ⟨bAl HB.out _, heap_alloc_new wr _⟩
      have HPc := Lib.hid (fun W => pcmp_any (G f) (G k) W)
      obtain ⟨hz, hkf⟩ := HSp.out k g
      have hir : IntKind.i64.wrap (f : Int) = (f : Int) := by rw [IntKind.wrap_i64]; omega
      have hfd : decide ((f : Int) < (n : Int)) = true := decide_eq_true (by omega)
      clear hall
      generalize G k = v at *
      generalize G f = u at *
      rw [show PC v = #[.int .i64 v.one, .int .i64 v.cls, .int .i64 v.two, .int .i64 v.id] from rfl] at HR H0 HPc
      rw [show PC u = #[.int .i64 u.one, .int .i64 u.cls, .int .i64 u.two, .int .i64 u.id] from rfl] at HPc HU
      generalize u.cmp v = z at *
      have hz1 : ¬ 0 < z := by omega
      have hzk : (z == 0) = false ∨ ((z == 0) = true ∧ decide ((k : Int) < (f : Int)) = false) := by
        by_cases e : z = 0
        · refine .inr ⟨by rw [beq_iff_eq]; exact e, decide_eq_false (fun h => ?_)⟩
          have := hkf (by omega)
          omega
        · exact .inl (by rw [beq_eq_false_iff_ne]; exact e)
      have HZ := Lib.hid hzk
      have hzd : decide (0 < z) = false := decide_eq_false hz1
      clear hkf hzk
      go_upto_region 13 with ((with_reducible refine at_loadP ?_); refine wpList_loadW rfl _ _ rfl _ _ rfl #[.int .i64 v.one, .int .i64 v.cls, .int .i64 v.two, .int .i64 v.id] _ (HR.out) Try.underlying23 rfl (by kernel_rfl) ?_)
      generalize wr.alloc (.cells #[.int .i64 v.one, .int .i64 v.cls, .int .i64 v.two, .int .i64 v.id] 23) = W1 at *
      have h0 := H0.out.drew
      refine wp_region_held_drew (S := LF w v wr.heap.size) (by kernel_rfl) h0 (fun h0 => ?_)
      refine hTakeS (i := 0) (k := 37) (v := .slice (some ⟨b, o, none⟩) n c) rfl rfl (by kernel_rfl) (by kernel_rfl) (by kernel_rfl) (fun _ _ _ h => h) (yieldsIf_val (by rfl) (by intro W; go_simp)) h0 ?_
      simp only [List.setIfInBounds_toArray, List.set_cons_zero, List.set_cons_succ]
      refine hTakeS (i := 1) (k := 38) (v := .int .i64 (f : Int)) rfl rfl (by kernel_rfl) (by kernel_rfl) (by kernel_rfl) (fun _ _ _ h => h) (yieldsIf_val (by rfl) (by intro W; go_simp)) h0 ?_
      simp only [List.setIfInBounds_toArray, List.set_cons_zero, List.set_cons_succ]
      refine hTakeS (i := 2) (k := 39) (v := .pointer (some ⟨b, o + f * 4, none⟩)) rfl rfl (by kernel_rfl) (by kernel_rfl) (by kernel_rfl) (fun _ _ _ h => h) (yieldsIf_val (by rfl) (by intro W; go_simp)) h0 ?_
      simp only [List.setIfInBounds_toArray, List.set_cons_zero, List.set_cons_succ]
      refine hTakeS (i := 3) (k := 40) (v := .agg #[.int .i64 u.one, .int .i64 u.cls, .int .i64 u.two, .int .i64 u.id]) rfl rfl (by kernel_rfl) (by kernel_rfl) (by kernel_rfl) (fun _ _ _ h => h) (.inl ⟨by rfl, fun W hW => loadOp _ _ rfl _ _ #[.int .i64 u.one, .int .i64 u.cls, .int .i64 u.two, .int .i64 u.id] _ (HU.out W hW.bel) Try.underlying23 rfl (by kernel_rfl) rfl⟩) h0 ?_
      simp only [List.setIfInBounds_toArray, List.set_cons_zero, List.set_cons_succ]
      refine hTakeS (i := 4) (k := 41) (v := .agg #[.int .i64 v.one, .int .i64 v.cls, .int .i64 v.two, .int .i64 v.id]) rfl rfl (by kernel_rfl) (by kernel_rfl) (by kernel_rfl) (fun _ _ _ h => h) (.inl ⟨by rfl, fun W hW => loadOp _ _ rfl _ _ #[.int .i64 v.one, .int .i64 v.cls, .int .i64 v.two, .int .i64 v.id] _ (range_whole hW.box) Try.underlying23 rfl (by kernel_rfl) rfl⟩) h0 ?_
      simp only [List.setIfInBounds_toArray, List.set_cons_zero, List.set_cons_succ]
      refine hCallR (i := 5) (k := 42) (by kernel_rfl) rfl rfl (by rfl) 13 #[.agg #[.int .i64 u.one, .int .i64 u.cls, .int .i64 u.two, .int .i64 u.id], .agg #[.int .i64 v.one, .int .i64 v.cls, .int .i64 v.two, .int .i64 v.id]] (by go_simp) (HPc.out _) ?_
      rintro e W5 ⟨rfl, hb⟩
      have h5 := h0.below hb
      clear hb
      refine ⟨_, rfl, h5, ?_⟩
      simp only [List.setIfInBounds_toArray, List.set_cons_zero, List.set_cons_succ]
      refine hTakeS (i := 6) (k := 6) (v := .int .i64 z) rfl rfl (by kernel_rfl) (by kernel_rfl) (by kernel_rfl) (fun _ _ _ h => h) (yieldsIf_val (by rfl) (by intro W; go_simp)) h5 ?_
      simp only [List.setIfInBounds_toArray, List.set_cons_zero, List.set_cons_succ]
      refine wpAnyH_done (by kernel_rfl) ?_ _
      have HW := Lib.hid h5.bel
      clear h0 H0 h5
      rcases HZ.out with e | ⟨e, e2⟩
      · go_wp2_with fail
        exact ⟨⟨_, _, _, _, _, ⟨k + 1, by omega, by go_num, HW.out⟩, rfl, rfl, rfl, rfl, rfl⟩, by simp [intOf]; omega⟩
      · have e3 : ¬ k < f := by simpa using e2
        go_wp2_with fail
        exact ⟨⟨_, _, _, _, _, ⟨k + 1, by omega, by go_num, HW.out⟩, rfl, rfl, rfl, rfl, rfl⟩, by simp [intOf]; omega⟩
    · obtain rfl : k = n := by omega
      have hd : decide ((k : Int) < (k : Int)) = false := decide_eq_false (by omega)
      go_wp2_with fail
      go_ret
      exact ⟨rfl, HB.out⟩
theorem bestFirst_holds : Rows.BestFirstSaid := bestFirst_of (fun v n w h => by
  obtain ⟨G, hG⟩ := parg_of h
  exact bestFirst_any hG)

end Go.Proofs.Ytihddpoaemhlnaa
