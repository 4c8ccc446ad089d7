/- Package lanes: Pick. -/
import Derived.Test.YtllmfkodgalklaaPoLnHead
namespace Go.Proofs.Ytllmfkodgalklaa
open Go.RowKit Go.Joins

theorem bodyPick {R : Ending → World → Prop} {a : Act} {w : World} {g : Nat} {x y : Value} {c0 c1 c2 : Value} {fr : Nat × Nat} (hy : a.tmps.getD 4 undef = y) (hp : a.tmps.getD 5 undef = .pointer (some ⟨g, 0, none⟩)) (hx : a.tmps.getD 6 undef = x) (hg : w.heap[g]? = some (.cells #[c0, c1, c2] 35 fr)) (hd : a.defers = [])
    (hR : R (.returned (.tuple #[y, .agg #[c0, c1, c2], x])) w) : bodyPost Try.prog Try.f22 R .ret a w := by
  refine bodyPost_ret (v := .tuple #[y, .agg #[c0, c1, c2], x]) ?_ hd hR
  have h := run_loadVar_row w g 35 35 #[c0, c1, c2] fr _ hg Try.underlying35 rfl (by kernel_rfl)
  simp only [results, Try.results22]
  have hp' : a.tmps[5]?.getD undef = .pointer (some ⟨g, 0, none⟩) := by simpa using hp
  have hx' : a.tmps[6]?.getD undef = x := by simpa using hx
  have hy' : a.tmps[4]?.getD undef = y := by simpa using hy
  simp [hp', hx', hy', asAddr, h]

/-- A class's first one has time enough. -/
def fits (s : LS) (left : Nat → Int) (c : Nat) : Prop := ∃ x L, s.q c = x :: L ∧ 8 * x.2.1 ≤ left c
/-- Sizes are right, and no row is endless. -/
structure LS.Good (s : LS) : Prop where
  sz : ∀ c, c < 8 → ∀ x ∈ s.q c, 0 ≤ x.2.1 ∧ x.2.1 ≤ 1600
  ln : ∀ c, c < 8 → (s.q c).length ≤ 4096
def PkRel (w : World) (s : LS) (left : Nat → Int) (kv : Value) (wr : World) : Prop :=
  ∃ k : Nat, k ≤ 8 ∧ kv = .int .i64 ((k : Int) - 1) ∧ (∀ d, k ≤ d → d < 8 → ¬ fits s left d) ∧ wr.heap[w.heap.size]? = some (o8 left) ∧ wr.heap[w.heap.size + 1]? = some (.cells #[.int .i64 0, .int .i64 0, .bool false] 35 (0, 0)) ∧ Below w.heap.size w wr
/-- What Pick answers, and leaves. -/
def PkPost (w : World) (b : Nat) (F : Nat → Prop) (s : LS) (left : Nat → Int) (e : Ending) (w' : World) : Prop :=
  ((∀ c, c < 8 → ¬ fits s left c) ∧ e = .returned (.tuple #[.int .i64 0, itv it0, .bool false]) ∧ Below w.heap.size w w') ∨
  ∃ c x L, c < 8 ∧ s.q c = x :: L ∧ 8 * x.2.1 ≤ left c ∧ (∀ d, c < d → d < 8 → ¬ fits s left d) ∧ e = .returned (.tuple #[.int .i64 (c : Int), itv x, .bool true]) ∧ Ln w' b F { s with q := upd s.q c L } ∧ ButP F w w'
theorem PkRel.of {w wr w2 : World} {s : LS} {left : Nat → Int} {k : Nat} (hk : k ≤ 8) (hno : ∀ d, k ≤ d → d < 8 → ¬ fits s left d) (hl : wr.heap[w.heap.size]? = some (o8 left)) (hr : wr.heap[w.heap.size + 1]? = some (.cells #[.int .i64 0, .int .i64 0, .bool false] 35 (0, 0))) (hb : Below w.heap.size w wr) (h2 : Below wr.heap.size wr w2) : PkRel w s left (.int .i64 ((k : Int) - 1)) w2 :=
  ⟨k, hk, rfl, hno, (h2.block _ (lt_of_heap hl)).trans hl, (h2.block _ (lt_of_heap hr)).trans hr, bTr hb h2⟩
theorem LnI.popq {w : World} {b : Nat} {F : Nat → Prop} {s : LS} {sl : Nat → Value} (h : LnI w b F s sl) {c : Nat} (hc : c < 8) {v : Value} {L : List It} (hq : Qr w F v L) (ho : v.ownBlock = (sl c).ownBlock) : LnI (w.setCell ⟨b, 8 + c, none⟩ v) b F { s with q := upd s.q c L } (upd sl c v) := by
  have k := h.setq (w' := w) hc (v := v) (L := L) (by rw [wid_self]; exact hq) ⟨rfl, rfl, rfl, Nat.le_refl _, fun _ _ _ => rfl⟩ (.inl ho)
  rwa [wid_self] at k
theorem set3_row {w : World} {g : Nat} {c0 c1 c2 : Value} {t : TypeId} (h : w.heap[g]? = some (.cells #[c0, c1, c2] t (0, 0))) (x0 x1 x2 : Value) : (((w.setCell ⟨g, 0, none⟩ x0).setCell ⟨g, 1, none⟩ x1).setCell ⟨g, 2, none⟩ x2).heap[g]? = some (.cells #[x0, x1, x2] t (0, 0)) :=
  heap_setCell_same _ g 2 _ _ _ (heap_setCell_same _ g 1 _ _ _ (heap_setCell_same w g 0 _ _ _ h))
theorem pk_ln {W : World} {b g : Nat} {F : Nat → Prop} {s : LS} (h : Ln W b F s) (hg : ∀ j, F j → j ≠ g) (v0 v1 v2 : Value) : Ln (((W.setCell ⟨g, 0, none⟩ v0).setCell ⟨g, 1, none⟩ v1).setCell ⟨g, 2, none⟩ v2).drew b F s := by
  obtain ⟨sl, h⟩ := h
  exact ⟨sl, h.keep (by simp) (fun j hj => (heap_setCell_other _ ⟨g, 2, none⟩ j _ (hg j hj)).trans ((heap_setCell_other _ ⟨g, 1, none⟩ j _ (hg j hj)).trans (heap_setCell_other W ⟨g, 0, none⟩ j _ (hg j hj))))⟩
theorem pk_but {w wr W2 W : World} {g : Nat} {F : Nat → Prop} (h1 : Below w.heap.size w wr) (h2 : Below w.heap.size wr W2) (h3 : ButP F W2 W) (hg : w.heap.size ≤ g) (v0 v1 v2 : Value) : ButP F w (((W.setCell ⟨g, 0, none⟩ v0).setCell ⟨g, 1, none⟩ v1).setCell ⟨g, 2, none⟩ v2).drew := by
  have h := h1.trans h2
  have hk : ∀ j, j < w.heap.size → j ≠ g := fun j hj => by omega
  refine ⟨h3.os.trans h.os, h3.tape.trans h.tape, h3.output.trans h.output, by have := h.size; have := h3.size; simp; omega, fun j hj hn => ?_⟩
  exact (heap_setCell_other _ ⟨g, 2, none⟩ j _ (hk j hj)).trans ((heap_setCell_other _ ⟨g, 1, none⟩ j _ (hk j hj)).trans ((heap_setCell_other W ⟨g, 0, none⟩ j _ (hk j hj)).trans ((h3.block j (by have := h.size; omega) hn).trans (h.block j hj))))
section
variable {w : World} {b : Nat} {F : Nat → Prop} {s : LS}
set_option maxHeartbeats 4000000 in
theorem pick_any (h : Ln w b F s) (G : s.Good) (left : Nat → Int) : Calls Try.prog 22 #[.pointer (some ⟨b, 0, none⟩), a8 left] w (PkPost w b F s left) := by
  have H := Lib.hid h
  have HG := Lib.hid G
  clear h G
  unfold a8
  go_enter Try.func22, Try.ntmps22
  go_wp2_with fail
  go_loopw [7] (fun kv wr => PkRel w s left kv wr) (fun kv _ => (intOf kv + 1).toNat)
  case atStart => exact ⟨8, by omega, rfl, fun d h1 h2 => by omega, (heap_alloc_old (w.alloc _) _ (by simp)).trans (heap_alloc_one' w _), heap_alloc_two' _ _ _, bAl (bAl (bRef w) _) _⟩
  case round =>
    obtain ⟨k, hk, rfl, hno, hl, hr, hb⟩ := hrel
    have HNO := Lib.hid hno
    have HL := Lib.hid hl
    have HR := Lib.hid hr
    have HB := Lib.hid hb
    clear hno hl hr hb
    have hr := HR.out
    have hl := HL.out
    have r0 : wr.cell? ⟨w.heap.size + 1, 0, none⟩ = some (.int .i64 0) := cell_of_row _ _ _ _ _ _ hr
    have r1 : wr.cell? ⟨w.heap.size + 1, 1, none⟩ = some (.int .i64 0) := cell_of_row _ _ _ _ _ _ hr
    have r2 : wr.cell? ⟨w.heap.size + 1, 2, none⟩ = some (.bool false) := cell_of_row _ _ _ _ _ _ hr
    have f0 : wr.frozen? ⟨w.heap.size + 1, 0, none⟩ = false := frozen_of_row _ _ _ _ _ hr
    have f1 : wr.frozen? ⟨w.heap.size + 1, 1, none⟩ = false := frozen_of_row _ _ _ _ _ hr
    have f2 : wr.frozen? ⟨w.heap.size + 1, 2, none⟩ = false := frozen_of_row _ _ _ _ _ hr
    rcases k with _ | k
    · clear hr hl
      go_wp2_with fail
      refine bodyPick rfl rfl rfl (set3_row HR.out _ _ _) rfl (.inl ⟨fun d hd => HNO.out d (by omega) hd, rfl, ?_⟩)
      exact bSet (bSet (bSet HB.out _ (by simp) _) _ (by simp) _) _ (by simp) _
    · clear r0 r1 r2 f0 f1 f2 hr
      have hk8 : k < 8 := by omega
      have d1 : decide (0 ≤ (k : Int)) = true := decide_eq_true (by omega)
      have i1 : (0 : Int) ≤ (k : Int) := by omega
      have i2 : (k : Int) < 8 := by omega
      have e1 : ((k + 1 : Nat) : Int) - 1 = (k : Int) := by omega
      rw [e1]
      have HLW := Lib.hid (H.out.below HB.out)
      rcases hq : s.q k with _ | ⟨x, L⟩
      · have HD : Hid (Calls Try.prog 47 #[.pointer (some ⟨b, 0, none⟩), .int .i64 (k : Int)] wr fun e w' => e = .returned (.tuple #[.agg #[.int .i64 0, .int .i64 0, .bool false], .bool false]) ∧ Below wr.heap.size wr w') := Lib.hid (hd_none HLW.out k hk8 hq)
        have HN : Hid (∀ d, k ≤ d → d < 8 → ¬ fits s left d) := Lib.hid (fun d h1 h2 => by
          rcases Nat.lt_or_ge k d with g | g
          · exact HNO.out d (by omega) h2
          · obtain rfl : d = k := by omega
            rintro ⟨x, L, h3, _⟩
            rw [hq] at h3
            cases h3)
        clear hq hl
        go_wp2_with (go_at_call 47; (with_reducible refine HD.out.mono ?_); rintro e w1 ⟨rfl, hb⟩; have HB1 := Lib.hid hb; clear hb)
        go_quiet (fail)
        all_goals go_wp2_with fail
        all_goals go_roundw
        case rel => exact PkRel.of (by omega) HN.out HL.out HR.out HB.out (bDr (bAl HB1.out _) _)
        case measure => simp [intOf]
      · obtain ⟨x0, x1, x2⟩ := x
        have hg := HG.out.sz k hk8 (x0, x1, x2) (by rw [hq]; exact List.mem_cons_self ..)
        have hn := HG.out.ln k hk8
        rw [hq] at hn
        simp only [List.length_cons] at hn
        dsimp only at hg
        have HD : Hid (Calls Try.prog 47 #[.pointer (some ⟨b, 0, none⟩), .int .i64 (k : Int)] wr fun e w' => e = .returned (.tuple #[.agg #[.int .i64 x0, .int .i64 x1, .bool x2], .bool true]) ∧ Below wr.heap.size wr w') := Lib.hid (hd_some HLW.out k hk8 hq (by omega))
        have ew : wrap64 (8 * x1) = 8 * x1 := by unfold wrap64; omega
        by_cases hf : 8 * x1 ≤ left k
        · have df : decide (8 * x1 ≤ left k) = true := decide_eq_true hf
          have HQ := Lib.hid hq
          have HF := Lib.hid hf
          have HNn := Lib.hid hn
          clear hq hl hf hg hn
          go_wp2_with (go_at_call 47; (with_reducible refine HD.out.mono ?_); rintro e w1 ⟨rfl, hb⟩; have HB1 := Lib.hid hb; clear hb)
          have hB2 := bAl HB1.out (.cells #[.int .i64 x0, .int .i64 x1, .bool x2] 35)
          have q : (w1.alloc (.cells #[.int .i64 x0, .int .i64 x1, .bool x2] 35)).cell? ⟨w.heap.size, k, none⟩ = some (.int .i64 (left k)) := o8_cells left ((hB2.block _ (lt_of_heap HL.out)).trans HL.out) hk8
          clear hB2
          go_quiet (fail)
          go_wp2_with fail
          clear q
          obtain ⟨W2, hW2⟩ : ∃ W2, (w1.alloc (.cells #[.int .i64 x0, .int .i64 x1, .bool x2] 35)).drewN nq = W2 := ⟨_, rfl⟩
          have hB2 : Below wr.heap.size wr W2 := by rw [← hW2]; exact bDr (bAl HB1.out _) _
          have hit : W2.heap[w1.heap.size]? = some (.cells #[.int .i64 x0, .int .i64 x1, .bool x2] 35 (0, 0)) := by rw [← hW2]; exact heap_alloc_one' w1 _
          have hrs := (hB2.block _ (lt_of_heap HR.out)).trans HR.out
          obtain ⟨sl, hI⟩ := HLW.out.below hB2
          have hqr := hI.q k hk8
          rw [HQ.out] at hqr
          obtain ⟨g, o, cap, eS, a0, a1, a2, hcap, hmax, hq2⟩ := hqr.first
          have k0 := hI.cq hk8
          rw [eS] at k0
          have kf := hI.fz (8 + k)
          have HIN := Lib.hid hI
          have HIT := Lib.hid hit
          have HRS := Lib.hid hrs
          have HB2 := Lib.hid hB2
          have HQ2 := Lib.hid hq2
          have HCAP := Lib.hid hcap
          have i3 : (1 : Int) ≤ (L.length : Int) + 1 := by omega
          have hne : w1.heap.size ≠ b := neq_tag hit hI.box (by decide)
          have HNE := Lib.hid hne
          rw [hW2]
          clear hW2 hB2 hit hrs hI hqr a0 a1 a2 hcap hmax hq2 hne
          have HES := Lib.hid eS
          have HNR : Hid (w.heap.size + 1 ≠ b) := Lib.hid (fun e => by have h1 := H.out.top.2 b H.out.top.1; omega)
          by_cases hc1 : cap = 1
          · rw [hc1] at k0 HQ2
            rw [if_pos rfl] at HQ2
            clear hc1 eS
            go_region
            all_goals go_wp2_with fail
            obtain ⟨W3, hW3⟩ : ∃ W3, (W2.setCell ⟨b, 8 + k, none⟩ (.slice (some ⟨g, o, none⟩) L.length 0)).drew = W3 := ⟨_, rfl⟩
            have hI3 : Ln W3 b F { s with q := upd s.q k L } := by rw [← hW3]; exact Ln.drew ⟨_, HIN.out.popq hk8 HQ2.out (by rw [HES.out]; rfl)⟩
            have hB3 : ButP F W2 W3 := by rw [← hW3]; exact (but_set HIN.out.fb _ _).drew
            have hit : W3.heap[w1.heap.size]? = some (.cells #[.int .i64 x0, .int .i64 x1, .bool x2] 35 (0, 0)) := by rw [← hW3]; exact (heap_setCell_other W2 ⟨b, 8 + k, none⟩ _ _ HNE.out).trans HIT.out
            have hrs : W3.heap[w.heap.size + 1]? = some (.cells #[.int .i64 0, .int .i64 0, .bool false] 35 (0, 0)) := by rw [← hW3]; exact (heap_setCell_other W2 ⟨b, 8 + k, none⟩ _ _ HNR.out).trans HRS.out
            rw [hW3]
            clear hW3
            have r0 : W3.cell? ⟨w.heap.size + 1, 0, none⟩ = some (.int .i64 0) := cell_of_row _ _ _ _ _ _ hrs
            have r1 : W3.cell? ⟨w.heap.size + 1, 1, none⟩ = some (.int .i64 0) := cell_of_row _ _ _ _ _ _ hrs
            have r2 : W3.cell? ⟨w.heap.size + 1, 2, none⟩ = some (.bool false) := cell_of_row _ _ _ _ _ _ hrs
            have f0 : W3.frozen? ⟨w.heap.size + 1, 0, none⟩ = false := frozen_of_row _ _ _ _ _ hrs
            have f1 : W3.frozen? ⟨w.heap.size + 1, 1, none⟩ = false := frozen_of_row _ _ _ _ _ hrs
            have f2 : W3.frozen? ⟨w.heap.size + 1, 2, none⟩ = false := frozen_of_row _ _ _ _ _ hrs
            have t0 : W3.cell? ⟨w1.heap.size, 0, none⟩ = some (.int .i64 x0) := cell_of_row _ _ _ _ _ _ hit
            have t1 : W3.cell? ⟨w1.heap.size, 1, none⟩ = some (.int .i64 x1) := cell_of_row _ _ _ _ _ _ hit
            have t2 : W3.cell? ⟨w1.heap.size, 2, none⟩ = some (.bool x2) := cell_of_row _ _ _ _ _ _ hit
            have HRS3 := Lib.hid hrs
            have HI3 := Lib.hid hI3
            have HB3 := Lib.hid hB3
            clear hit hrs hI3 hB3 k0 kf
            go_region
            all_goals go_wp2_with fail
            have hsz := HB.out.size
            exact bodyPick rfl rfl rfl (set3_row HRS3.out _ _ _) rfl (.inr ⟨k, _, L, hk8, HQ.out, HF.out, fun d h1 h2 => HNO.out d (by omega) h2, rfl, pk_ln HI3.out (fun j hj => by have := H.out.top.2 j hj; omega) _ _ _, pk_but HB.out (HB2.out.mono HB.out.size) HB3.out (by omega) _ _ _⟩)
          · rw [if_neg hc1] at HQ2
            clear eS
            go_region
            all_goals go_wp2_with fail
            obtain ⟨W3, hW3⟩ : ∃ W3, (W2.setCell ⟨b, 8 + k, none⟩ (.slice (some ⟨g, o + 3, none⟩) L.length (cap - 1))).drew = W3 := ⟨_, rfl⟩
            have hI3 : Ln W3 b F { s with q := upd s.q k L } := by rw [← hW3]; exact Ln.drew ⟨_, HIN.out.popq hk8 HQ2.out (by rw [HES.out]; rfl)⟩
            have hB3 : ButP F W2 W3 := by rw [← hW3]; exact (but_set HIN.out.fb _ _).drew
            have hit : W3.heap[w1.heap.size]? = some (.cells #[.int .i64 x0, .int .i64 x1, .bool x2] 35 (0, 0)) := by rw [← hW3]; exact (heap_setCell_other W2 ⟨b, 8 + k, none⟩ _ _ HNE.out).trans HIT.out
            have hrs : W3.heap[w.heap.size + 1]? = some (.cells #[.int .i64 0, .int .i64 0, .bool false] 35 (0, 0)) := by rw [← hW3]; exact (heap_setCell_other W2 ⟨b, 8 + k, none⟩ _ _ HNR.out).trans HRS.out
            rw [hW3]
            clear hW3
            have r0 : W3.cell? ⟨w.heap.size + 1, 0, none⟩ = some (.int .i64 0) := cell_of_row _ _ _ _ _ _ hrs
            have r1 : W3.cell? ⟨w.heap.size + 1, 1, none⟩ = some (.int .i64 0) := cell_of_row _ _ _ _ _ _ hrs
            have r2 : W3.cell? ⟨w.heap.size + 1, 2, none⟩ = some (.bool false) := cell_of_row _ _ _ _ _ _ hrs
            have f0 : W3.frozen? ⟨w.heap.size + 1, 0, none⟩ = false := frozen_of_row _ _ _ _ _ hrs
            have f1 : W3.frozen? ⟨w.heap.size + 1, 1, none⟩ = false := frozen_of_row _ _ _ _ _ hrs
            have f2 : W3.frozen? ⟨w.heap.size + 1, 2, none⟩ = false := frozen_of_row _ _ _ _ _ hrs
            have t0 : W3.cell? ⟨w1.heap.size, 0, none⟩ = some (.int .i64 x0) := cell_of_row _ _ _ _ _ _ hit
            have t1 : W3.cell? ⟨w1.heap.size, 1, none⟩ = some (.int .i64 x1) := cell_of_row _ _ _ _ _ _ hit
            have t2 : W3.cell? ⟨w1.heap.size, 2, none⟩ = some (.bool x2) := cell_of_row _ _ _ _ _ _ hit
            have HRS3 := Lib.hid hrs
            have HI3 := Lib.hid hI3
            have HB3 := Lib.hid hB3
            clear hit hrs hI3 hB3 k0 kf
            go_region
            all_goals go_wp2_with fail
            have hsz := HB.out.size
            exact bodyPick rfl rfl rfl (set3_row HRS3.out _ _ _) rfl (.inr ⟨k, _, L, hk8, HQ.out, HF.out, fun d h1 h2 => HNO.out d (by omega) h2, rfl, pk_ln HI3.out (fun j hj => by have := H.out.top.2 j hj; omega) _ _ _, pk_but HB.out (HB2.out.mono HB.out.size) HB3.out (by omega) _ _ _⟩)
        · have df : decide (8 * x1 ≤ left k) = false := decide_eq_false hf
          have HN : Hid (∀ d, k ≤ d → d < 8 → ¬ fits s left d) := Lib.hid (fun d h1 h2 => by
            rcases Nat.lt_or_ge k d with g | g
            · exact HNO.out d (by omega) h2
            · obtain rfl : d = k := by omega
              rintro ⟨x, L, h3, h4⟩
              rw [hq] at h3
              injection h3 with h3 _
              subst h3
              exact hf h4)
          clear hq hl hf hg hn
          go_wp2_with (go_at_call 47; (with_reducible refine HD.out.mono ?_); rintro e w1 ⟨rfl, hb⟩; have HB1 := Lib.hid hb; clear hb)
          have hB2 := bAl HB1.out (.cells #[.int .i64 x0, .int .i64 x1, .bool x2] 35)
          have q : (w1.alloc (.cells #[.int .i64 x0, .int .i64 x1, .bool x2] 35)).cell? ⟨w.heap.size, k, none⟩ = some (.int .i64 (left k)) := o8_cells left ((hB2.block _ (lt_of_heap HL.out)).trans HL.out) hk8
          clear hB2
          go_quiet (fail)
          all_goals go_wp2_with fail
          all_goals go_roundw
          case rel => exact PkRel.of (by omega) HN.out HL.out HR.out HB.out (bDr (bAl HB1.out _) _)
          case measure => simp [intOf]
end

end Go.Proofs.Ytllmfkodgalklaa
