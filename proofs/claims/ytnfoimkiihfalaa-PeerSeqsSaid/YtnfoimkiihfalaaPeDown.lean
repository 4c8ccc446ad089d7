/- Package peer: Down. -/
import Derived.Test.YtnfoimkiihfalaaPeHead
namespace Go.Proofs.Ytnfoimkiihfalaa
open Go.RowKit Go.Joins

def PS.down (s : PS) : PS := { PS.new s.id s.port s.most s.slack s.win s.lost with seq := s.seq }
theorem Try.builtDown (s : PS) : Try.prog.built 74 [(0, .agg #[.int .i64 s.id, .int .i64 s.port, .int .i64 s.most, .int .i64 s.slack, .int .i64 s.win, .int .i64 s.lost]), (1, .int .i64 s.seq)] = some (prow s.down (.slice none 0 0)) := by kernel_rfl
set_option maxRecDepth 20000 in
set_option maxHeartbeats 1000000 in
theorem down_any {w : World} {b : Nat} {s : PS} (h : Pr w b s) : Calls Try.prog 28 #[.pointer (some ⟨b, 0, none⟩)] w fun e w' => e = .returned (.tuple #[]) ∧ Leave b w s.down w' := by
  obtain ⟨v, h⟩ := h
  have H := Lib.hid h
  have hlt := h.lt
  have HB := Lib.hid h.box
  clear h
  go_enter Try.func28, Try.ntmps28
  go_wp2_with fail
  have h0 : (fun V => V.cell? ⟨b, 0, none⟩ = some (.int .i64 s.id) ∧ V.cell? ⟨b, 1, none⟩ = some (.int .i64 s.port) ∧ V.cell? ⟨b, 2, none⟩ = some (.int .i64 s.most) ∧ V.cell? ⟨b, 3, none⟩ = some (.int .i64 s.slack) ∧ V.cell? ⟨b, 4, none⟩ = some (.int .i64 s.win) ∧ V.cell? ⟨b, 5, none⟩ = some (.int .i64 s.lost) ∧ V.cell? ⟨b, 6, none⟩ = some (.int .i64 s.seq)) w.drew := ⟨H.out.c0, H.out.c1, H.out.c2, H.out.c3, H.out.c4, H.out.c5, H.out.c6⟩
  refine wp_region_held_drew (S := fun V => V.cell? ⟨b, 0, none⟩ = some (.int .i64 s.id) ∧ V.cell? ⟨b, 1, none⟩ = some (.int .i64 s.port) ∧ V.cell? ⟨b, 2, none⟩ = some (.int .i64 s.most) ∧ V.cell? ⟨b, 3, none⟩ = some (.int .i64 s.slack) ∧ V.cell? ⟨b, 4, none⟩ = some (.int .i64 s.win) ∧ V.cell? ⟨b, 5, none⟩ = some (.int .i64 s.lost) ∧ V.cell? ⟨b, 6, none⟩ = some (.int .i64 s.seq)) (by kernel_rfl) h0 (fun h0 => ?_)
  refine hTakeS (i := 0) (k := 4) (v := .pointer (some ⟨b, 0, none⟩)) rfl rfl (by kernel_rfl) (by kernel_rfl) (by kernel_rfl) (fun _ _ _ h => h) (yieldsIf_val (by rfl) (by intro W; go_simp)) h0 ?_
  simp only [List.setIfInBounds_toArray, List.set_cons_zero, List.set_cons_succ]
  refine hTakeS (i := 1) (k := 5) (v := .pointer (some ⟨b, 0, none⟩)) rfl rfl (by kernel_rfl) (by kernel_rfl) (by kernel_rfl) (fun _ _ _ h => h) (yieldsIf_val (by rfl) (by intro W; go_simp)) h0 ?_
  simp only [List.setIfInBounds_toArray, List.set_cons_zero, List.set_cons_succ]
  refine hTakeS (i := 2) (k := 6) (v := .pointer (some ⟨b, 0, none⟩)) rfl rfl (by kernel_rfl) (by kernel_rfl) (by kernel_rfl) (fun _ _ _ h => h) (yieldsIf_val (by rfl) (by intro W; go_simp)) h0 ?_
  simp only [List.setIfInBounds_toArray, List.set_cons_zero, List.set_cons_succ]
  refine hTakeS (i := 3) (k := 7) (v := .pointer (some ⟨b, 0, none⟩)) rfl rfl (by kernel_rfl) (by kernel_rfl) (by kernel_rfl) (fun _ _ _ h => h) (yieldsIf_val (by rfl) (by intro W; go_simp)) h0 ?_
  simp only [List.setIfInBounds_toArray, List.set_cons_zero, List.set_cons_succ]
  refine hTakeS (i := 4) (k := 8) (v := .agg #[.int .i64 s.id, .int .i64 s.port, .int .i64 s.most, .int .i64 s.slack, .int .i64 s.win, .int .i64 s.lost]) rfl rfl (by kernel_rfl) (by kernel_rfl) (by kernel_rfl) (fun _ _ _ h => h) (.inl ⟨by rfl, fun W hW => by obtain ⟨b0, b1, b2, b3, b4, b5, b6⟩ := hW; go_simp⟩) h0 ?_
  simp only [List.setIfInBounds_toArray, List.set_cons_zero, List.set_cons_succ]
  refine hTakeS (i := 5) (k := 9) (v := .pointer (some ⟨b, 0, none⟩)) rfl rfl (by kernel_rfl) (by kernel_rfl) (by kernel_rfl) (fun _ _ _ h => h) (yieldsIf_val (by rfl) (by intro W; go_simp)) h0 ?_
  simp only [List.setIfInBounds_toArray, List.set_cons_zero, List.set_cons_succ]
  refine hTakeS (i := 6) (k := 10) (v := .pointer (some ⟨b, 0, none⟩)) rfl rfl (by kernel_rfl) (by kernel_rfl) (by kernel_rfl) (fun _ _ _ h => h) (yieldsIf_val (by rfl) (by intro W; go_simp)) h0 ?_
  simp only [List.setIfInBounds_toArray, List.set_cons_zero, List.set_cons_succ]
  refine hTakeS (i := 7) (k := 11) (v := .pointer (some ⟨b, 6, none⟩)) rfl rfl (by kernel_rfl) (by kernel_rfl) (by kernel_rfl) (fun _ _ _ h => h) (yieldsIf_val (by rfl) (by intro W; go_simp)) h0 ?_
  simp only [List.setIfInBounds_toArray, List.set_cons_zero, List.set_cons_succ]
  refine hTakeS (i := 8) (k := 12) (v := .int .i64 s.seq) rfl rfl (by kernel_rfl) (by kernel_rfl) (by kernel_rfl) (fun _ _ _ h => h) (.inl ⟨by rfl, fun W hW => by obtain ⟨b0, b1, b2, b3, b4, b5, b6⟩ := hW; go_simp⟩) h0 ?_
  simp only [List.setIfInBounds_toArray, List.set_cons_zero, List.set_cons_succ]
  refine hTakeS (i := 9) (k := 13) (v := .agg (prow s.down (.slice none 0 0))) rfl rfl (by kernel_rfl) (by kernel_rfl) (by kernel_rfl) (fun _ _ _ h => h) (yieldsIf_val (by rfl) (fun W => build_opG _ _ rfl _ (by simp only [List.map_toArray, List.map_cons, List.map_nil]; exact Try.builtDown s) W)) h0 ?_
  simp only [List.setIfInBounds_toArray, List.set_cons_zero, List.set_cons_succ]
  refine hTakeS (i := 10) (k := 14) (v := .pointer (some ⟨b, 0, none⟩)) rfl rfl (by kernel_rfl) (by kernel_rfl) (by kernel_rfl) (fun _ _ _ h => h) (yieldsIf_val (by rfl) (by intro W; go_simp)) h0 ?_
  simp only [List.setIfInBounds_toArray, List.set_cons_zero, List.set_cons_succ]
  have hrow : (w.drew.setRow b (prow s.down (.slice none 0 0))).heap[b]? = some (.cells (prow s.down (.slice none 0 0)) 74 (0, 0)) := setRow_heap _ _ _ _ _ _ HB.out
  have hx : (fun V => V.cell? ⟨b, 0, none⟩ = some (.int .i64 s.id) ∧ V.cell? ⟨b, 1, none⟩ = some (.int .i64 s.port) ∧ V.cell? ⟨b, 2, none⟩ = some (.int .i64 s.most) ∧ V.cell? ⟨b, 3, none⟩ = some (.int .i64 s.slack) ∧ V.cell? ⟨b, 4, none⟩ = some (.int .i64 s.win) ∧ V.cell? ⟨b, 5, none⟩ = some (.int .i64 s.lost) ∧ V.cell? ⟨b, 6, none⟩ = some (.int .i64 s.seq)) (w.drew.setRow b (prow s.down (.slice none 0 0))) := ⟨cell_of_row _ _ 0 _ _ _ hrow, cell_of_row _ _ 1 _ _ _ hrow, cell_of_row _ _ 2 _ _ _ hrow, cell_of_row _ _ 3 _ _ _ hrow, cell_of_row _ _ 4 _ _ _ hrow, cell_of_row _ _ 5 _ _ _ hrow, cell_of_row _ _ 6 _ _ _ hrow⟩
  refine hOneNS (i := 11) (w' := (w.drew.setRow b (prow s.down (.slice none 0 0)))) (by kernel_rfl) rfl rfl (by rfl) (store_opG _ _ _ rfl b (prow s.down (.slice none 0 0)) rfl rfl _ _ _ HB.out (by kernel_rfl) rfl (by simp [prow, Value.oneCell'])) hx ?_
  refine wpAnyH_done (by kernel_rfl) ?_ _
  go_wp2_with fail
  go_end0
  exact ⟨rfl, ⟨_, ⟨hrow, .inl ⟨rfl, rfl⟩⟩⟩, ⟨rfl, rfl, rfl, by rw [setRow_siz]; exact Nat.le_refl _, fun k _ hn => setRow_off w.drew b k _ hn⟩⟩

end Go.Proofs.Ytnfoimkiihfalaa
