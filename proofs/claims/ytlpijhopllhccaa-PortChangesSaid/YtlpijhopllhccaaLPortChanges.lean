/- For any two ints PortChanges answers true: a list that is to come holds from a beginning of its cycle on, and not sooner; what would last beyond that time waits. No condition. -/
import Derived.Test.YtlpijhopllhccaaFPortChanges
import Derived.Test.YtlpijhopllhccaaPoLaw
namespace Go.Proofs.Ytlpijhopllhccaa
open Go.RowKit Go.Joins

def chA : List (Int × Int) := [(255, 1000)]
def chN : List (Int × Int) := [(0, 5000)]
def chP : PL := PL.new 0 1000 chA
def chQ : PL := ⟨0, 1000, chA, 20000, 5000, chN, 20000, true⟩
def chR : PL := ⟨20000, 5000, chN, 0, 0, [], 0, false⟩
def chS (z : Int) : LS := { LS.new (fun _ => 4) with q := upd (LS.new (fun _ => 4)).q 3 [(1, z, false)] }
theorem ch_pute {z : Int} (h0 : 64 ≤ z) (h1 : z ≤ 1087) : (LS.new (fun _ => 4)).pute 3 (1, z, false) = 0 := by
  unfold LS.pute
  rw [if_neg (show ¬ (z < 0 ∨ 1600 < z) by omega)]
  rfl
theorem ch_put {z : Int} (h0 : 64 ≤ z) (h1 : z ≤ 1087) : (LS.new (fun _ => 4)).put 3 (1, z, false) = chS z := by
  unfold LS.put
  rw [if_pos (ch_pute h0 h1)]
  rfl
theorem ch_chg {x : Int} (h0 : 0 ≤ x) (h1 : x ≤ 16383) : chP.chg 20000 5000 chN x = chQ := by
  unfold PL.chg
  rw [show max x 20000 = 20000 by omega]
  rfl
theorem ch_turn {x : Int} (h : x < 20000) : chQ.turn x = chQ := if_neg (fun e => by have : (20000 : Int) ≤ x := e.2; omega)
theorem ch_only {z : Int} {left : Nat → Int} (h : left 3 < 8 * z) : ∀ c, c < 8 → ¬ fits (chS z) left c := fun c hc hf => by
  obtain ⟨y, R, h1, h2⟩ := hf
  by_cases e : c = 3
  · subst e
    have : (chS z).q 3 = [(1, z, false)] := rfl
    rw [this] at h1
    injection h1 with h1 _
    subst h1
    have h3 : 8 * z ≤ left 3 := h2
    omega
  · have : (chS z).q c = [] := upd_other _ _ e
    rw [this] at h1
    cases h1
theorem ch_left {x : Int} (hx : inNow x) : leftV 0 1000 chA x ((3 : Nat) : Int) = 2147483648 := by
  unfold leftV
  rw [if_pos (show Tells 0 1000 chA x ∧ isG ((3 : Nat) : Int) from ⟨⟨⟨by have := hx.1; omega, by have := hx.2; omega⟩, by decide⟩, by decide⟩)]
  rfl
theorem ch_leftQ {x : Int} (h : x < 20000) (hx : inNow x) : leftOf chQ x 3 = min 2147483648 (20000 - x) := by
  unfold leftOf
  rw [ch_turn h]
  show leftP true 20000 0 1000 chA x 3 = _
  unfold leftP
  rw [if_pos rfl, ch_left hx]
theorem ch_no1 {x z : Int} (h0 : 0 ≤ x) (h1 : x < 20000) (h2 : 20000 - 8 * z < x) : ∀ c, c < 8 → ¬ fits (chS z) (leftOf chQ x) c :=
  ch_only (by rw [ch_leftQ h1 ⟨h0, by omega⟩]; omega)
theorem ch_leftR : leftOf chQ 26000 3 = 0 := by decide
theorem ch_leftR2 : leftOf chR 26000 3 = 0 := by decide
theorem ch_turnR : chQ.turn 26000 = chR := rfl
theorem ch_turnR2 : chR.turn 26000 = chR := rfl
theorem ch_cls (z : Int) : clsN (chS z) 8 = [3] := rfl
theorem ch_when {z : Int} (hz : 64 ≤ z) : whenV chR (chS z) 26000 = (0, false) := by
  unfold whenV
  rw [ch_cls]
  have e : (([3] : List Int).any fun y => fitB (chS z) (leftOf chR 26000) y.toNat) = false := by
    have : fitB (chS z) (leftOf chR 26000) 3 = false := by
      show decide (8 * z ≤ leftOf chR 26000 3) = false
      rw [ch_leftR2]
      exact decide_eq_false (by omega)
    simp [this]
  rw [e, if_neg (by decide), ch_turnR2]
  decide
theorem ch_yes (L : Nat) {z : Int} (h0 : 64 ≤ z) (h1 : z ≤ 1087) : Picks L (chS z) (leftOf chQ (20000 - 8 * z)) ((3 : Nat) : Int) (1, z, false) true { chS z with q := upd (chS z).q 3 [] } := by
  refine Picks.some (c := 3) (by omega) rfl ?_ fun d h1 h2 hf => ?_
  · show 8 * z ≤ _
    rw [ch_leftQ (by omega) ⟨by omega, by omega⟩]
    omega
  · obtain ⟨y, R, e, _⟩ := hf
    have : (chS z).q d = [] := upd_other _ _ (by omega)
    rw [this] at e
    cases e
theorem low14 (n : Int) : bits .and .i64 n 16383 = n % 16384 := and_low n 14 (by omega)
set_option maxRecDepth 20000 in
set_option maxHeartbeats 8000000 in
theorem lchanges_any (x0 x1 : Int) (w : World) : Calls Try.prog 6 #[.int .i64 x0, .int .i64 x1] w fun e w' => e = .returned (.bool true) ∧ Below w.heap.size w w' := by
  have HH := Lib.hid (fun W => lhead_ret W)
  have HE := Lib.hid (fun n W => eight_lit n W)
  have l0 := low14 x0
  have l1 := low10 x1
  obtain ⟨A, hA⟩ : ∃ A, x0 % 16384 = A := ⟨_, rfl⟩
  obtain ⟨Z, hZ⟩ : ∃ Z, 64 + x1 % 1024 = Z := ⟨_, rfl⟩
  have hA0 : 0 ≤ A ∧ A ≤ 16383 := by omega
  have hZ0 : 64 ≤ Z ∧ Z ≤ 1087 := by omega
  have e1 : wrap64 (64 + x1 % 1024) = Z := by rw [hZ]; unfold wrap64; omega
  obtain ⟨Y, hY⟩ : ∃ Y, 8 * Z = Y := ⟨_, rfl⟩
  have e2 : wrap64 (8 * Z) = Y := by rw [hY]; unfold wrap64; omega
  obtain ⟨B, hB⟩ : ∃ B, 20000 - Y = B := ⟨_, rfl⟩
  have e3 : wrap64 (20000 - Y) = B := by rw [hB]; unfold wrap64; omega
  obtain ⟨C, hC⟩ : ∃ C, B + 1 = C := ⟨_, rfl⟩
  have e4 : wrap64 (B + 1) = C := by rw [hC]; unfold wrap64; omega
  have w1 : wrap64 Z = Z := by unfold wrap64; omega
  have w2 : wrap64 Y = Y := by unfold wrap64; omega
  have w3 : wrap64 B = B := by unfold wrap64; omega
  have w4 : wrap64 C = C := by unfold wrap64; omega
  obtain ⟨T, hT⟩ : ∃ T, max C A = T := ⟨_, rfl⟩
  rw [hA] at l0
  have HT : Hid (0 ≤ T ∧ T < 20000 ∧ B < T) := Lib.hid (by omega)
  have HA := Lib.hid hA0
  have HZ := Lib.hid hZ0
  have HBY : Hid (B = 20000 - 8 * Z) := Lib.hid (by omega)
  have d1 : decide (B < T) = true := decide_eq_true HT.out.2.2
  clear hA hA0 hZ0
  go_enter Try.func6, Try.ntmps6
  go_wp2_with (go_at_call 7; (with_reducible refine (HH.out _).mono ?_); rintro e u0 ⟨rfl, hb⟩; have HB0 := Lib.hid hb; clear hb)
  have HBA := Lib.hid (bAl (bAl (bAl (bAl (bRef u0) (.cells #[.int .i64 255, .int .i64 1000] 64)) (.cells #[.int .i64 0, .int .i64 1000, .slice (some ⟨u0.heap.size, 0, none⟩) 1 1] 24)) (.cells #[.int .i64 0, .int .i64 5000] 64)) (.cells #[.int .i64 20000, .int .i64 5000, .slice (some ⟨u0.heap.size + 1 + 1, 0, none⟩) 1 1] 24))
  have f1 := heap_alloc_one u0 (.cells #[.int .i64 255, .int .i64 1000] 64)
  have f2 := heap_alloc_one (u0.alloc (.cells #[.int .i64 255, .int .i64 1000] 64)) (.cells #[.int .i64 0, .int .i64 1000, .slice (some ⟨u0.heap.size, 0, none⟩) 1 1] 24)
  have f3 := heap_alloc_one ((u0.alloc (.cells #[.int .i64 255, .int .i64 1000] 64)).alloc (.cells #[.int .i64 0, .int .i64 1000, .slice (some ⟨u0.heap.size, 0, none⟩) 1 1] 24)) (.cells #[.int .i64 0, .int .i64 5000] 64)
  have f4 := heap_alloc_one (((u0.alloc (.cells #[.int .i64 255, .int .i64 1000] 64)).alloc (.cells #[.int .i64 0, .int .i64 1000, .slice (some ⟨u0.heap.size, 0, none⟩) 1 1] 24)).alloc (.cells #[.int .i64 0, .int .i64 5000] 64)) (.cells #[.int .i64 20000, .int .i64 5000, .slice (some ⟨u0.heap.size + 1 + 1, 0, none⟩) 1 1] 24)
  simp only [World.alloc, Array.size_push] at f2 f3 f4
  have HF1 : Hid (((((u0.alloc (.cells #[.int .i64 255, .int .i64 1000] 64)).alloc (.cells #[.int .i64 0, .int .i64 1000, .slice (some ⟨u0.heap.size, 0, none⟩) 1 1] 24)).alloc (.cells #[.int .i64 0, .int .i64 5000] 64)).alloc (.cells #[.int .i64 20000, .int .i64 5000, .slice (some ⟨u0.heap.size + 1 + 1, 0, none⟩) 1 1] 24)).heap[u0.heap.size]? = some (.cells #[.int .i64 255, .int .i64 1000] 64 (0, 0))) := Lib.hid ((heap_alloc_old _ _ (by first | (simp; done) | (simp; omega))).trans ((heap_alloc_old _ _ (by first | (simp; done) | (simp; omega))).trans ((heap_alloc_old _ _ (by simp)).trans f1)))
  have HF2 : Hid (((((u0.alloc (.cells #[.int .i64 255, .int .i64 1000] 64)).alloc (.cells #[.int .i64 0, .int .i64 1000, .slice (some ⟨u0.heap.size, 0, none⟩) 1 1] 24)).alloc (.cells #[.int .i64 0, .int .i64 5000] 64)).alloc (.cells #[.int .i64 20000, .int .i64 5000, .slice (some ⟨u0.heap.size + 1 + 1, 0, none⟩) 1 1] 24)).heap[u0.heap.size + 1]? = some (.cells #[.int .i64 0, .int .i64 1000, .slice (some ⟨u0.heap.size, 0, none⟩) 1 1] 24 (0, 0))) := Lib.hid ((heap_alloc_old _ _ (by first | (simp; done) | (simp; omega))).trans ((heap_alloc_old _ _ (by simp)).trans f2))
  have HF3 : Hid (((((u0.alloc (.cells #[.int .i64 255, .int .i64 1000] 64)).alloc (.cells #[.int .i64 0, .int .i64 1000, .slice (some ⟨u0.heap.size, 0, none⟩) 1 1] 24)).alloc (.cells #[.int .i64 0, .int .i64 5000] 64)).alloc (.cells #[.int .i64 20000, .int .i64 5000, .slice (some ⟨u0.heap.size + 1 + 1, 0, none⟩) 1 1] 24)).heap[u0.heap.size + 1 + 1]? = some (.cells #[.int .i64 0, .int .i64 5000] 64 (0, 0))) := Lib.hid ((heap_alloc_old _ _ (by simp)).trans f3)
  have HF4 : Hid (((((u0.alloc (.cells #[.int .i64 255, .int .i64 1000] 64)).alloc (.cells #[.int .i64 0, .int .i64 1000, .slice (some ⟨u0.heap.size, 0, none⟩) 1 1] 24)).alloc (.cells #[.int .i64 0, .int .i64 5000] 64)).alloc (.cells #[.int .i64 20000, .int .i64 5000, .slice (some ⟨u0.heap.size + 1 + 1, 0, none⟩) 1 1] 24)).heap[u0.heap.size + 1 + 1 + 1]? = some (.cells #[.int .i64 20000, .int .i64 5000, .slice (some ⟨u0.heap.size + 1 + 1, 0, none⟩) 1 1] 24 (0, 0))) := Lib.hid f4
  clear f1 f2 f3 f4
  generalize ((((u0.alloc (.cells #[.int .i64 255, .int .i64 1000] 64)).alloc (.cells #[.int .i64 0, .int .i64 1000, .slice (some ⟨u0.heap.size, 0, none⟩) 1 1] 24)).alloc (.cells #[.int .i64 0, .int .i64 5000] 64)).alloc (.cells #[.int .i64 20000, .int .i64 5000, .slice (some ⟨u0.heap.size + 1 + 1, 0, none⟩) 1 1] 24)) = V at *
  have HBV := Lib.hid (bTr HB0.out HBA.out)
  generalize u0.heap.size = n at *
  have HTA : Hid (∀ U, Below V.heap.size V U → TArg U (.slice (some ⟨n, 0, none⟩) 1 1) chA) := Lib.hid (fun U hb => (targ_one HF1.out (by decide) (by decide)).below hb)
  have HTN : Hid (∀ U, Below V.heap.size V U → TArg U (.slice (some ⟨n + 1 + 1, 0, none⟩) 1 1) chN) := Lib.hid (fun U hb => (targ_one HF3.out (by decide) (by decide)).below hb)
  have HVS := Lib.hid (lt_of_heap HF3.out)
  have HCA : Hid (∀ U, Below V.heap.size V U → U.cell? ⟨n + 1, 0, none⟩ = some (.int .i64 0) ∧ U.cell? ⟨n + 1, 1, none⟩ = some (.int .i64 1000) ∧ U.cell? ⟨n + 1, 2, none⟩ = some (.slice (some ⟨n, 0, none⟩) 1 1)) := Lib.hid (fun U hb => by
    have h := (hb.block _ (lt_of_heap HF2.out)).trans HF2.out
    exact ⟨cell_of_row _ _ 0 _ _ _ h, cell_of_row _ _ 1 _ _ _ h, cell_of_row _ _ 2 _ _ _ h⟩)
  have HCN : Hid (∀ U, Below V.heap.size V U → U.cell? ⟨n + 1 + 1 + 1, 0, none⟩ = some (.int .i64 20000) ∧ U.cell? ⟨n + 1 + 1 + 1, 1, none⟩ = some (.int .i64 5000) ∧ U.cell? ⟨n + 1 + 1 + 1, 2, none⟩ = some (.slice (some ⟨n + 1 + 1, 0, none⟩) 1 1)) := Lib.hid (fun U hb => by
    have h := (hb.block _ (lt_of_heap HF4.out)).trans HF4.out
    exact ⟨cell_of_row _ _ 0 _ _ _ h, cell_of_row _ _ 1 _ _ _ h, cell_of_row _ _ 2 _ _ _ h⟩)
  have HPU : Hid (∀ U k L, PB V U k L chP (LS.new (fun _ => 4)) → Calls Try.prog 13 #[PP k, .int .i64 3, .agg #[.int .i64 1, .int .i64 Z, .bool false]] U fun e w' => e = .returned (.int .i64 0) ∧ PB V w' k L chP (chS Z)) := Lib.hid (fun U k L h => (pb_put h 3 1 Z false).mono fun e w' hh => ⟨by rw [hh.1, ch_pute HZ.out.1 HZ.out.2], by rw [← ch_put HZ.out.1 HZ.out.2]; exact hh.2⟩)
  have HCH : Hid (∀ U k L x, V.heap.size ≤ k → 0 ≤ x → x ≤ 16383 → PB V U k L chP (chS Z) → Calls Try.prog 14 #[PP k, .agg #[.int .i64 20000, .int .i64 5000, .slice (some ⟨n + 1 + 1, 0, none⟩) 1 1], .int .i64 x] U fun e w' => e = .returned (.int .i64 0) ∧ PB V w' k L chQ (chS Z)) := Lib.hid (fun U k L x hk hx0 hx1 h => by
    have := pb_change h 20000 5000 (.slice (some ⟨n + 1 + 1, 0, none⟩) 1 1) chN (HTN.out _ h.bel) (fun _ e => (show n + 1 + 1 ≠ k by have := HVS.out; omega) (by injection e)) (by decide) x ⟨hx0, by omega⟩
    rw [ch_chg hx0 hx1] at this
    exact this)
  refine wp_region_held_drew (S := fun U => U.cell? ⟨n + 1, 0, none⟩ = some (.int .i64 0) ∧ U.cell? ⟨n + 1, 1, none⟩ = some (.int .i64 1000) ∧ U.cell? ⟨n + 1, 2, none⟩ = some (.slice (some ⟨n, 0, none⟩) 1 1)) (by kernel_rfl) (HCA.out _ (⟨rfl, rfl, rfl, Nat.le_refl _, fun _ _ => rfl⟩ : Below V.heap.size V V.drew)) (fun h0 => ?_)
  refine hTakeS (i := 0) (k := 38) (v := LV 0 1000 (.slice (some ⟨n, 0, none⟩) 1 1)) rfl rfl (by kernel_rfl) (by kernel_rfl) (by kernel_rfl) (fun _ _ _ h => h) (.inl ⟨by rfl, fun W hW => by obtain ⟨b0, b1, b2⟩ := hW; go_simp⟩) h0 ?_
  simp only [List.setIfInBounds_toArray, List.set_cons_zero, List.set_cons_succ]
  refine hCallR (i := 1) (k := 39) (by kernel_rfl) rfl rfl (by rfl) 9 #[.int .i64 4] (by go_simp) (HE.out 4 _) ?_
  rintro e v1 ⟨rfl, hb1⟩
  have hbl : Below V.heap.size V v1 := Below.trans (⟨rfl, rfl, rfl, Nat.le_refl _, fun _ _ => rfl⟩ : Below V.heap.size V V.drew) (hb1.mono (Below.size (⟨rfl, rfl, rfl, Nat.le_refl _, fun _ _ => rfl⟩ : Below V.heap.size V V.drew)))
  have s1 := HCA.out _ hbl
  refine ⟨_, rfl, s1, ?_⟩
  simp only [List.setIfInBounds_toArray, List.set_cons_zero, List.set_cons_succ]
  refine hCallR (i := 2) (k := 40) (by kernel_rfl) rfl rfl (by rfl) 8 #[LV 0 1000 (.slice (some ⟨n, 0, none⟩) 1 1), .agg #[.int .i64 4, .int .i64 4, .int .i64 4, .int .i64 4, .int .i64 4, .int .i64 4, .int .i64 4, .int .i64 4]] (by go_simp) (pb_new (w0 := V) hbl 0 1000 _ chA (HTA.out _ hbl) (by decide) 4 (by decide) (by decide)) ?_
  rintro e v2 ⟨k, L, rfl, hk, hpb, hb2⟩
  have s2 := HCA.out _ hpb.bel
  have H2 := Lib.hid hpb
  have HK := Lib.hid (Nat.le_trans hbl.size hk)
  refine ⟨_, rfl, s2, ?_⟩
  simp only [List.setIfInBounds_toArray, List.set_cons_zero, List.set_cons_succ]
  refine hTakeS (i := 3) (k := 37) (v := .tuple #[.pointer (some ⟨k, 0, none⟩), .int .i64 0]) rfl rfl (by kernel_rfl) (by kernel_rfl) (by kernel_rfl) (fun _ _ _ h => h) (yieldsIf_val (by rfl) (by intro W; go_simp)) s2 ?_
  simp only [List.setIfInBounds_toArray, List.set_cons_zero, List.set_cons_succ]
  refine hTakeS (i := 4) (k := 41) (v := .pointer (some ⟨k, 0, none⟩)) rfl rfl (by kernel_rfl) (by kernel_rfl) (by kernel_rfl) (fun _ _ _ h => h) (yieldsIf_val (by rfl) (by intro W; go_simp)) s2 ?_
  simp only [List.setIfInBounds_toArray, List.set_cons_zero, List.set_cons_succ]
  refine hTakeS (i := 5) (k := 42) (v := .int .i64 0) rfl rfl (by kernel_rfl) (by kernel_rfl) (by kernel_rfl) (fun _ _ _ h => h) (yieldsIf_val (by rfl) (by intro W; go_simp)) s2 ?_
  simp only [List.setIfInBounds_toArray, List.set_cons_zero, List.set_cons_succ]
  refine hTakeS (i := 6) (k := 7) (v := .pointer (some ⟨k, 0, none⟩)) rfl rfl (by kernel_rfl) (by kernel_rfl) (by kernel_rfl) (fun _ _ _ h => h) (yieldsIf_val (by rfl) (by intro W; go_simp)) s2 ?_
  simp only [List.setIfInBounds_toArray, List.set_cons_zero, List.set_cons_succ]
  refine hTakeS (i := 7) (k := 8) (v := .int .i64 0) rfl rfl (by kernel_rfl) (by kernel_rfl) (by kernel_rfl) (fun _ _ _ h => h) (yieldsIf_val (by rfl) (by intro W; go_simp)) s2 ?_
  simp only [List.setIfInBounds_toArray, List.set_cons_zero, List.set_cons_succ]
  refine wpAnyH_done (by kernel_rfl) ?_ _
  clear s1 s2 hpb hb1 hb2 h0 hk hbl
  have HNA : Hid (∀ U, PB V U k L chQ (chS Z) → Calls Try.prog 11 #[PP k, .int .i64 T] U fun e w' => e = .returned (.tuple #[.agg #[.int .i64 0, .int .i64 0, .bool false], .int .i64 0, .bool false]) ∧ PB V w' k L chQ (chS Z)) := Lib.hid (fun U h => by
    have := pb_next h T ⟨HT.out.1, by have := HT.out.2.1; omega⟩ (Picks.none (ch_no1 HT.out.1 HT.out.2.1 (by have := HT.out.2.2; have := HBY.out; omega)))
    rw [ch_turn HT.out.2.1] at this
    exact this)
  have HNB : Hid (∀ U, PB V U k L chQ (chS Z) → Calls Try.prog 11 #[PP k, .int .i64 26000] U fun e w' => e = .returned (.tuple #[.agg #[.int .i64 0, .int .i64 0, .bool false], .int .i64 0, .bool false]) ∧ PB V w' k L chR (chS Z)) := Lib.hid (fun U h => pb_next h 26000 (by decide) (Picks.none (ch_only (by rw [ch_leftR]; have := HZ.out.1; omega))))
  have HWH : Hid (∀ U, PB V U k L chR (chS Z) → Calls Try.prog 12 #[PP k, .int .i64 26000] U fun e w' => e = .returned (.tuple #[.int .i64 0, .bool false]) ∧ PB V w' k L chR (chS Z)) := Lib.hid (fun U h => by
    have := pb_when h (by rw [ch_cls]; decide) 26000 (by decide)
    rw [ch_when HZ.out.1] at this
    exact this)
  go_wp2_with (first
    | (go_at_call 13; (with_reducible refine (HPU.out _ _ _ H2.out).mono ?_); rintro e v3 ⟨rfl, hp⟩; have H3 := Lib.hid hp; obtain ⟨q0, q1, q2⟩ := HCN.out _ hp.bel; clear hp)
    | (go_at_call 14; (with_reducible refine (HCH.out _ _ _ A HK.out HA.out.1 HA.out.2 H3.out).mono ?_); rintro e v4 ⟨rfl, hp⟩; have H4 := Lib.hid hp; clear hp)
    | (go_at_call 11; (with_reducible refine (HNA.out _ H4.out).mono ?_); rintro e v5 ⟨rfl, hp⟩; have H5 := Lib.hid (hp.below (bAl (bRef v5) (.cells #[.int .i64 0, .int .i64 0, .bool false] 35))); clear hp)
    | (go_at_call 11; (with_reducible refine (HNB.out _ H5.out).mono ?_); rintro e v6 ⟨rfl, hp⟩; have H6 := Lib.hid (hp.below (bAl (bRef v6) (.cells #[.int .i64 0, .int .i64 0, .bool false] 35))); clear hp)
    | (go_at_call 12; (with_reducible refine (HWH.out _ H6.out).mono ?_); rintro e v7 ⟨rfl, hp⟩; have H7 := Lib.hid (hp.bel.trans ⟨rfl, rfl, rfl, Nat.le_refl _, fun _ _ => rfl⟩ : Below V.heap.size V v7.drew); clear hp))
  refine wp_region_held_drew (S := fun U => U.cell? ⟨n + 1, 0, none⟩ = some (.int .i64 0) ∧ U.cell? ⟨n + 1, 1, none⟩ = some (.int .i64 1000) ∧ U.cell? ⟨n + 1, 2, none⟩ = some (.slice (some ⟨n, 0, none⟩) 1 1)) (by kernel_rfl) (HCA.out _ H7.out) (fun h0 => ?_)
  refine hTakeS (i := 0) (k := 101) (v := LV 0 1000 (.slice (some ⟨n, 0, none⟩) 1 1)) rfl rfl (by kernel_rfl) (by kernel_rfl) (by kernel_rfl) (fun _ _ _ h => h) (.inl ⟨by rfl, fun W hW => by obtain ⟨b0, b1, b2⟩ := hW; go_simp⟩) h0 ?_
  simp only [List.setIfInBounds_toArray, List.set_cons_zero, List.set_cons_succ]
  refine hCallR (i := 1) (k := 102) (by kernel_rfl) rfl rfl (by rfl) 9 #[.int .i64 4] (by go_simp) (HE.out 4 _) ?_
  rintro e v8 ⟨rfl, hb1⟩
  have hbl : Below V.heap.size V v8 := Below.trans H7.out (hb1.mono (Below.size H7.out))
  have s1 := HCA.out _ hbl
  refine ⟨_, rfl, s1, ?_⟩
  simp only [List.setIfInBounds_toArray, List.set_cons_zero, List.set_cons_succ]
  refine hCallR (i := 2) (k := 103) (by kernel_rfl) rfl rfl (by rfl) 8 #[LV 0 1000 (.slice (some ⟨n, 0, none⟩) 1 1), .agg #[.int .i64 4, .int .i64 4, .int .i64 4, .int .i64 4, .int .i64 4, .int .i64 4, .int .i64 4, .int .i64 4]] (by go_simp) (pb_new (w0 := V) hbl 0 1000 _ chA (HTA.out _ hbl) (by decide) 4 (by decide) (by decide)) ?_
  rintro e v9 ⟨k9, L9, rfl, hk, hpb, hb2⟩
  have s2 := HCA.out _ hpb.bel
  have H9 := Lib.hid hpb
  have HK9 := Lib.hid (Nat.le_trans hbl.size hk)
  refine ⟨_, rfl, s2, ?_⟩
  simp only [List.setIfInBounds_toArray, List.set_cons_zero, List.set_cons_succ]
  refine hTakeS (i := 3) (k := 100) (v := .tuple #[.pointer (some ⟨k9, 0, none⟩), .int .i64 0]) rfl rfl (by kernel_rfl) (by kernel_rfl) (by kernel_rfl) (fun _ _ _ h => h) (yieldsIf_val (by rfl) (by intro W; go_simp)) s2 ?_
  simp only [List.setIfInBounds_toArray, List.set_cons_zero, List.set_cons_succ]
  refine hTakeS (i := 4) (k := 104) (v := .pointer (some ⟨k9, 0, none⟩)) rfl rfl (by kernel_rfl) (by kernel_rfl) (by kernel_rfl) (fun _ _ _ h => h) (yieldsIf_val (by rfl) (by intro W; go_simp)) s2 ?_
  simp only [List.setIfInBounds_toArray, List.set_cons_zero, List.set_cons_succ]
  refine hTakeS (i := 5) (k := 105) (v := .int .i64 0) rfl rfl (by kernel_rfl) (by kernel_rfl) (by kernel_rfl) (fun _ _ _ h => h) (yieldsIf_val (by rfl) (by intro W; go_simp)) s2 ?_
  simp only [List.setIfInBounds_toArray, List.set_cons_zero, List.set_cons_succ]
  refine hTakeS (i := 6) (k := 19) (v := .pointer (some ⟨k9, 0, none⟩)) rfl rfl (by kernel_rfl) (by kernel_rfl) (by kernel_rfl) (fun _ _ _ h => h) (yieldsIf_val (by rfl) (by intro W; go_simp)) s2 ?_
  simp only [List.setIfInBounds_toArray, List.set_cons_zero, List.set_cons_succ]
  refine hTakeS (i := 7) (k := 20) (v := .int .i64 0) rfl rfl (by kernel_rfl) (by kernel_rfl) (by kernel_rfl) (fun _ _ _ h => h) (yieldsIf_val (by rfl) (by intro W; go_simp)) s2 ?_
  simp only [List.setIfInBounds_toArray, List.set_cons_zero, List.set_cons_succ]
  refine wpAnyH_done (by kernel_rfl) ?_ _
  clear s1 s2 hpb hb1 hb2 h0 hk hbl
  have HNY : Hid (∀ U, PB V U k9 L9 chQ (chS Z) → Calls Try.prog 11 #[PP k9, .int .i64 B] U fun e w' => e = .returned (.tuple #[.agg #[.int .i64 1, .int .i64 Z, .bool false], .int .i64 3, .bool true]) ∧ Below V.heap.size V w') := Lib.hid (fun U h => by
    have hb := HBY.out
    have hz := HZ.out
    have := pb_next h B ⟨by omega, by omega⟩ (by rw [hb]; exact ch_yes L9 hz.1 hz.2)
    exact this.mono fun e w' hh => ⟨hh.1, hh.2.bel⟩)
  go_wp2_with (first
    | (go_at_call 13; (with_reducible refine (HPU.out _ _ _ H9.out).mono ?_); rintro e y3 ⟨rfl, hp⟩; have J3 := Lib.hid hp; obtain ⟨q0, q1, q2⟩ := HCN.out _ hp.bel; clear hp)
    | (go_at_call 14; (with_reducible refine (HCH.out _ _ _ 0 HK9.out (by omega) (by omega) J3.out).mono ?_); rintro e y4 ⟨rfl, hp⟩; have J4 := Lib.hid hp; clear hp)
    | (go_at_call 11; (with_reducible refine (HNY.out _ J4.out).mono ?_); rintro e y5 ⟨rfl, hp⟩; have J5 := Lib.hid (hp.trans ((bAl (bRef y5) (.cells #[.int .i64 1, .int .i64 Z, .bool false] 35)).mono hp.size)); clear hp))
  go_ret
  exact ⟨rfl, HBV.out.trans (J5.out.mono HBV.out.size)⟩

theorem portChanges_holds : Rows.PortChangesSaid := portChanges_of (fun x0 x1 w _ _ => lchanges_any x0 x1 w)

end Go.Proofs.Ytlpijhopllhccaa
