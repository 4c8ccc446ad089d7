/- Package peer: reckon, where nothing fails. -/
import Derived.Test.YtnfoimkiihfalaaPeBoth
namespace Go.Proofs.Ytnfoimkiihfalaa
open Go.RowKit Go.Joins

theorem max_eq {z : Int} : max 0 z = if 0 ≤ z then z else 0 := by omega
set_option maxHeartbeats 2000000 in
theorem reckon_ok {a3 a4 t1 t2 t3 t4 R I V B D : Int} (h : Reck a3 a4 t1 t2 t3 t4 R I V B) {w : World} {b g k c : Nat} {s : PS} (hp : Pr w b s) (e1 : s.t1 = t1) (e2 : s.t2 = t2) (e4 : s.t4 = t4) (h01 : In64 a3) (h02 : In64 a4) (h1 : In64 t1) (h2 : In64 t2) (h3 : In64 t3) (h4 : In64 t4) (hk : k < 100)
    (f0 : w.cell? ⟨g, 0, none⟩ = some (.int .i64 a3)) (f1 : w.cell? ⟨g, 1, none⟩ = some (.int .i64 a4)) (l0 : w.cell? ⟨g, k * 2, none⟩ = some (.int .i64 t3)) (l1 : w.cell? ⟨g, k * 2 + 1, none⟩ = some (.int .i64 t4))
    (hD : max 0 (B.tdiv 2) = D) (hs : - s.slack ≤ B) (hm : D ≤ s.most) (hsl : In64 s.slack) (hsl2 : 0 ≤ s.slack) (hB : In64 B) :
    Calls Try.prog 55 #[.pointer (some ⟨b, 0, none⟩), .slice (some ⟨g, 0, none⟩) (k + 1) c] w fun e w' => e = .returned (.tuple #[.int .i64 R, .int .i64 D, .int .i64 0]) ∧ Below w.heap.size w w' := by
  unfold In64 at hsl hB
  have HBt := Lib.hid (fun W => between_ok h h01 h02 h3 h4 W)
  have HBo := Lib.hid (fun W (hW : Below w.heap.size w W) => both_ok h (w := W) (b := b) h1 h2 h3 h4 (by have := hp.below hW; obtain ⟨v, q⟩ := this; rw [← e1]; exact q.c8) (by have := hp.below hW; obtain ⟨v, q⟩ := this; rw [← e2]; exact q.c9) (by have := hp.below hW; obtain ⟨v, q⟩ := this; rw [← e4]; exact q.c10))
  have HP := Lib.hid hp
  have d1 : decide (B < -s.slack) = false := decide_eq_false (by omega)
  have d2 : decide (s.most < D) = false := decide_eq_false (by omega)
  have n1 : wrap64 (-s.slack) = -s.slack := by unfold wrap64; omega
  have hq : wrap64 (B.tdiv 2) = B.tdiv 2 := by
    have : B.tdiv 2 = if 0 ≤ B ∨ 2 ∣ B then B / 2 else B / 2 + 1 := by
      have := Int.tdiv_eq_ediv (a := B) (b := 2)
      rw [this]
      split <;> simp
    rw [this]
    unfold wrap64
    split <;> omega
  have hkk : decide ((k : Int) < ((k + 1 : Nat) : Int)) = true := decide_eq_true (by omega)
  have ltg := block_lt_cell f0
  have F0 := Lib.hid f0
  have F1 := Lib.hid f1
  have L0 := Lib.hid l0
  have L1 := Lib.hid l1
  have hk1 : wrap64 ((((k + 1 : Nat) : Nat) : Int) - 1) = (k : Int) := by unfold wrap64; omega
  clear h h01 h02 h1 h2 h3 h4 hp hs hm hsl hsl2 hB e1 e2 e4
  go_enter Try.func55, Try.ntmps55
  go_wp2_with fail
  have h0 : (fun V => V.cell? ⟨g, 0, none⟩ = some (.int .i64 a3) ∧ V.cell? ⟨g, 1, none⟩ = some (.int .i64 a4) ∧ V.cell? ⟨w.heap.size, 0, none⟩ = some (.int .i64 t3) ∧ V.cell? ⟨w.heap.size, 1, none⟩ = some (.int .i64 t4)) (w.alloc (Obj.cells #[Value.int .i64 t3, Value.int .i64 t4] 87)).drew := ⟨((bAl (bRef w) _).cell (p := ⟨g, 0, none⟩) ltg).trans F0.out, ((bAl (bRef w) _).cell (p := ⟨g, 1, none⟩) ltg).trans F1.out, cell_of_row _ _ _ _ _ _ (heap_alloc_new w _), cell_of_row _ _ _ _ _ _ (heap_alloc_new w _)⟩
  refine wp_region_held_drew (S := fun V => V.cell? ⟨g, 0, none⟩ = some (.int .i64 a3) ∧ V.cell? ⟨g, 1, none⟩ = some (.int .i64 a4) ∧ V.cell? ⟨w.heap.size, 0, none⟩ = some (.int .i64 t3) ∧ V.cell? ⟨w.heap.size, 1, none⟩ = some (.int .i64 t4)) (by kernel_rfl) h0 (fun h0 => ?_)
  refine hTakeS (i := 0) (k := 19) (v := .slice (some ⟨g, 0, none⟩) (k + 1) c) rfl rfl (by kernel_rfl) (by kernel_rfl) (by kernel_rfl) (fun _ _ _ h => h) (yieldsIf_val (by rfl) (by intro W; go_simp)) h0 ?_
  simp only [List.setIfInBounds_toArray, List.set_cons_zero, List.set_cons_succ]
  refine hTakeS (i := 1) (k := 20) (v := .pointer (some ⟨g, 0, none⟩)) rfl rfl (by kernel_rfl) (by kernel_rfl) (by kernel_rfl) (fun _ _ _ h => h) (yieldsIf_val (by rfl) (by intro W; go_simp)) h0 ?_
  simp only [List.setIfInBounds_toArray, List.set_cons_zero, List.set_cons_succ]
  refine hTakeS (i := 2) (k := 21) (v := .agg #[.int .i64 a3, .int .i64 a4]) rfl rfl (by kernel_rfl) (by kernel_rfl) (by kernel_rfl) (fun _ _ _ h => h) (.inl ⟨by rfl, fun W hW => by obtain ⟨b0, b1, b2, b3⟩ := hW; go_simp⟩) h0 ?_
  simp only [List.setIfInBounds_toArray, List.set_cons_zero, List.set_cons_succ]
  refine hTakeS (i := 3) (k := 22) (v := .agg #[.int .i64 t3, .int .i64 t4]) rfl rfl (by kernel_rfl) (by kernel_rfl) (by kernel_rfl) (fun _ _ _ h => h) (.inl ⟨by rfl, fun W hW => by obtain ⟨b0, b1, b2, b3⟩ := hW; go_simp⟩) h0 ?_
  simp only [List.setIfInBounds_toArray, List.set_cons_zero, List.set_cons_succ]
  refine hCallR (i := 4) (k := 23) (by kernel_rfl) rfl rfl (by rfl) 57 #[.agg #[.int .i64 a3, .int .i64 a4], .agg #[.int .i64 t3, .int .i64 t4]] (by go_simp) (HBt.out _) ?_
  rintro e w1 ⟨rfl, hb⟩
  have HB1 := Lib.hid (bTr (bDr1 (bAl (bRef w) (Obj.cells #[Value.int .i64 t3, Value.int .i64 t4] 87))) hb)
  have h1 : (fun V => V.cell? ⟨g, 0, none⟩ = some (.int .i64 a3) ∧ V.cell? ⟨g, 1, none⟩ = some (.int .i64 a4) ∧ V.cell? ⟨w.heap.size, 0, none⟩ = some (.int .i64 t3) ∧ V.cell? ⟨w.heap.size, 1, none⟩ = some (.int .i64 t4)) w1 := ⟨(hb.cell (block_lt_cell h0.1)).trans h0.1, (hb.cell (block_lt_cell h0.2.1)).trans h0.2.1, (hb.cell (block_lt_cell h0.2.2.1)).trans h0.2.2.1, (hb.cell (block_lt_cell h0.2.2.2)).trans h0.2.2.2⟩
  clear hb
  refine ⟨_, rfl, h1, ?_⟩
  simp only [List.setIfInBounds_toArray, List.set_cons_zero, List.set_cons_succ]
  refine hTakeS (i := 5) (k := 18) (v := .tuple #[.int .i64 R, .int .i64 0]) rfl rfl (by kernel_rfl) (by kernel_rfl) (by kernel_rfl) (fun _ _ _ h => h) (yieldsIf_val (by rfl) (by intro W; go_simp)) h1 ?_
  simp only [List.setIfInBounds_toArray, List.set_cons_zero, List.set_cons_succ]
  refine hTakeS (i := 6) (k := 24) (v := .int .i64 R) rfl rfl (by kernel_rfl) (by kernel_rfl) (by kernel_rfl) (fun _ _ _ h => h) (yieldsIf_val (by rfl) (by intro W; go_simp)) h1 ?_
  simp only [List.setIfInBounds_toArray, List.set_cons_zero, List.set_cons_succ]
  refine hTakeS (i := 7) (k := 25) (v := .int .i64 0) rfl rfl (by kernel_rfl) (by kernel_rfl) (by kernel_rfl) (fun _ _ _ h => h) (yieldsIf_val (by rfl) (by intro W; go_simp)) h1 ?_
  simp only [List.setIfInBounds_toArray, List.set_cons_zero, List.set_cons_succ]
  refine hTakeS (i := 8) (k := 8) (v := .int .i64 R) rfl rfl (by kernel_rfl) (by kernel_rfl) (by kernel_rfl) (fun _ _ _ h => h) (yieldsIf_val (by rfl) (by intro W; go_simp)) h1 ?_
  simp only [List.setIfInBounds_toArray, List.set_cons_zero, List.set_cons_succ]
  refine hTakeS (i := 9) (k := 9) (v := .int .i64 0) rfl rfl (by kernel_rfl) (by kernel_rfl) (by kernel_rfl) (fun _ _ _ h => h) (yieldsIf_val (by rfl) (by intro W; go_simp)) h1 ?_
  simp only [List.setIfInBounds_toArray, List.set_cons_zero, List.set_cons_succ]
  refine wpAnyH_done (by kernel_rfl) ?_ _
  obtain ⟨q0, q1, q2, q3⟩ := h1
  go_wp2_with (first
    | (go_at_call 58; (with_reducible refine (HBo.out _ HB1.out).mono ?_); rintro e w2 ⟨rfl, hb⟩; have HB2 := Lib.hid (bTr HB1.out hb); have hp2 := HP.out.below (bTr HB1.out hb); obtain ⟨v2, hp3⟩ := hp2; have p2 := hp3.c2; have p3 := hp3.c3; clear hb hp3))
  exact bodyPost_ret (v := .tuple #[.int .i64 R, .int .i64 D, .int .i64 0]) (by simp [results, Try.results55, go_sem]) rfl ⟨rfl, HB2.out⟩

end Go.Proofs.Ytnfoimkiihfalaa
