/- PortOpen where nothing is put: too long, or no list of gates. Written by gen_poopen.py. -/
import Derived.Test.YtllmfkodgalklaaPoOpG
import Derived.Test.YtllmfkodgalklaaFPortOpen
namespace Go.Proofs.Ytllmfkodgalklaa
open Go.RowKit Go.Joins Go.Deep

set_option maxRecDepth 1000000 in
set_option maxHeartbeats 16000000 in
theorem popen_a (b cy : Int) (sp : Option Addr) (nt sc : Nat) (ts : List (Int × Int)) (p : Option Addr) (n cc : Nat) (w : World) (ht : TArg w (.slice sp nt sc) ts) (hnt : ts.length = nt) (h1 : 64 < nt) : Calls Try.prog 5 #[.agg #[.int .i64 b, .int .i64 cy, .slice sp nt sc], .slice p n cc] w fun e w' => e = .returned (.bool true) ∧ Below w.heap.size w w' := by
  have HH := Lib.hid lhead_ret
  have HE := Lib.hid (fun n W => eight_lit n W)
  have HK0 : Hid ((w.alloc (.cells #[.int .i64 b, .int .i64 cy, .slice sp nt sc] 24)).heap[w.heap.size]? = some (.cells #[.int .i64 b, .int .i64 cy, .slice sp nt sc] 24)) := Lib.hid (heap_alloc_one w _)
  have d1 : decide ((64 : Int) < (nt : Int)) = true := decide_eq_true (by omega)
  clear ht hnt
  go_enter Try.func5, Try.ntmps5
  go_wp2_with (go_at_call 7; (with_reducible refine (HH.out _).mono ?_); rintro e x1 ⟨rfl, hb⟩; have HB1 := Lib.hid (bTr (bAl (bRef w) (.cells #[.int .i64 b, .int .i64 cy, .slice sp nt sc] 24)) hb); have HK1 := Lib.hid ((hb.block _ (lt_of_heap HK0.out)).trans HK0.out); have l0 : x1.cell? ⟨w.heap.size, 0, none⟩ = some (.int .i64 b) := cell_of_row _ _ _ _ _ _ HK1.out; have l1 : x1.cell? ⟨w.heap.size, 1, none⟩ = some (.int .i64 cy) := cell_of_row _ _ _ _ _ _ HK1.out; have l2 : x1.cell? ⟨w.heap.size, 2, none⟩ = some (.slice sp nt sc) := cell_of_row _ _ _ _ _ _ HK1.out; clear hb)
  go_ret
  exact ⟨rfl, HB1.out⟩

set_option maxRecDepth 1000000 in
set_option maxHeartbeats 16000000 in
theorem popen_b (b cy : Int) (sp : Option Addr) (nt sc : Nat) (ts : List (Int × Int)) (p : Option Addr) (n cc : Nat) (w : World) (ht : TArg w (.slice sp nt sc) ts) (hnt : ts.length = nt) (h1 : ¬ 64 < nt) (h2 : 40 < n) : Calls Try.prog 5 #[.agg #[.int .i64 b, .int .i64 cy, .slice sp nt sc], .slice p n cc] w fun e w' => e = .returned (.bool true) ∧ Below w.heap.size w w' := by
  have HH := Lib.hid lhead_ret
  have HE := Lib.hid (fun n W => eight_lit n W)
  have HK0 : Hid ((w.alloc (.cells #[.int .i64 b, .int .i64 cy, .slice sp nt sc] 24)).heap[w.heap.size]? = some (.cells #[.int .i64 b, .int .i64 cy, .slice sp nt sc] 24)) := Lib.hid (heap_alloc_one w _)
  have d1 : decide ((64 : Int) < (nt : Int)) = false := decide_eq_false (by omega)
  have d2 : decide ((40 : Int) < (n : Int)) = true := decide_eq_true (by omega)
  clear ht hnt
  go_enter Try.func5, Try.ntmps5
  go_wp2_with (go_at_call 7; (with_reducible refine (HH.out _).mono ?_); rintro e x1 ⟨rfl, hb⟩; have HB1 := Lib.hid (bTr (bAl (bRef w) (.cells #[.int .i64 b, .int .i64 cy, .slice sp nt sc] 24)) hb); have HK1 := Lib.hid ((hb.block _ (lt_of_heap HK0.out)).trans HK0.out); have l0 : x1.cell? ⟨w.heap.size, 0, none⟩ = some (.int .i64 b) := cell_of_row _ _ _ _ _ _ HK1.out; have l1 : x1.cell? ⟨w.heap.size, 1, none⟩ = some (.int .i64 cy) := cell_of_row _ _ _ _ _ _ HK1.out; have l2 : x1.cell? ⟨w.heap.size, 2, none⟩ = some (.slice sp nt sc) := cell_of_row _ _ _ _ _ _ HK1.out; clear hb)
  go_ret
  exact ⟨rfl, HB1.out⟩

set_option maxRecDepth 1000000 in
set_option maxHeartbeats 16000000 in
theorem popen_c (b cy : Int) (sp : Option Addr) (nt sc : Nat) (ts : List (Int × Int)) (p : Option Addr) (n cc : Nat) (w : World) (ht : TArg w (.slice sp nt sc) ts) (hnt : ts.length = nt) (h1 : ¬ 64 < nt) (h2 : ¬ 40 < n) (hz : chkV b cy ts ≠ 0) : Calls Try.prog 5 #[.agg #[.int .i64 b, .int .i64 cy, .slice sp nt sc], .slice p n cc] w fun e w' => e = .returned (.bool true) ∧ Below w.heap.size w w' := by
  have HH := Lib.hid lhead_ret
  have HE := Lib.hid (fun n W => eight_lit n W)
  have HK0 : Hid ((w.alloc (.cells #[.int .i64 b, .int .i64 cy, .slice sp nt sc] 24)).heap[w.heap.size]? = some (.cells #[.int .i64 b, .int .i64 cy, .slice sp nt sc] 24)) := Lib.hid (heap_alloc_one w _)
  have d1 : decide ((64 : Int) < (nt : Int)) = false := decide_eq_false (by omega)
  have d2 : decide ((40 : Int) < (n : Int)) = false := decide_eq_false (by omega)
  have HT := Lib.hid ht
  have HNT := Lib.hid hnt
  obtain ⟨cv, hcv⟩ : ∃ v, chkV b cy ts = v := ⟨_, rfl⟩
  have HN : Hid (∀ V, TArg V (.slice sp nt sc) ts → Calls Try.prog 8 #[.agg #[.int .i64 b, .int .i64 cy, .slice sp nt sc], .agg #[.int .i64 30, .int .i64 30, .int .i64 30, .int .i64 30, .int .i64 30, .int .i64 30, .int .i64 30, .int .i64 30]] V fun e w' => e = .returned (.tuple #[.pointer none, .int .i64 cv]) ∧ Below V.heap.size V w') := Lib.hid (fun V hV => by have k := pnew_bad b cy (.slice sp nt sc) ts hV hz (fun _ => 30); rw [hcv] at k; exact k)
  have dz : (cv == 0) = false := beq_eq_false_iff_ne.mpr (by rw [← hcv]; exact hz)
  clear ht hnt hz hcv h1 h2
  go_enter Try.func5, Try.ntmps5
  refine wp_hideP (fun cx ax kx vx wx hx => by cases kx <;> exact hx) (fun Q9 hQ9 hP9 => ?_)
  have HQ9 := Lib.hid hQ9
  have HP9 := Lib.hid hP9
  clear hQ9 hP9
  go_upto_region 5 with (go_at_call 7; (with_reducible refine (HH.out _).mono ?_); rintro e x1 ⟨rfl, hb⟩; have HB1 := Lib.hid (bTr (bAl (bRef w) (.cells #[.int .i64 b, .int .i64 cy, .slice sp nt sc] 24)) hb); have HK1 := Lib.hid ((hb.block _ (lt_of_heap HK0.out)).trans HK0.out); have l0 : x1.cell? ⟨w.heap.size, 0, none⟩ = some (.int .i64 b) := cell_of_row _ _ _ _ _ _ HK1.out; have l1 : x1.cell? ⟨w.heap.size, 1, none⟩ = some (.int .i64 cy) := cell_of_row _ _ _ _ _ _ HK1.out; have l2 : x1.cell? ⟨w.heap.size, 2, none⟩ = some (.slice sp nt sc) := cell_of_row _ _ _ _ _ _ HK1.out; clear hb)
  refine wp_region_held_drew (S := fun V => V.cell? ⟨w.heap.size, 0, none⟩ = some (.int .i64 b) ∧ V.cell? ⟨w.heap.size, 1, none⟩ = some (.int .i64 cy) ∧ V.cell? ⟨w.heap.size, 2, none⟩ = some (.slice sp nt sc)) (by kernel_rfl) ⟨l0, l1, l2⟩ (fun h0 => ?_)
  refine hTakeS (i := 0) (k := 30) (v := .agg #[.int .i64 b, .int .i64 cy, .slice sp nt sc]) rfl rfl (by kernel_rfl) (by kernel_rfl) (by kernel_rfl) (fun cx ax wx hx => HP9.out cx ax _ _ wx hx) (.inl ⟨by rfl, fun W hW => by obtain ⟨b0, b1, b2⟩ := hW; go_simp⟩) h0 ?_
  simp only [List.setIfInBounds_toArray, List.set_cons_zero, List.set_cons_succ]
  refine hCallR (i := 1) (k := 31) (by kernel_rfl) rfl rfl (by rfl) 9 #[.int .i64 30] (by go_simp) (HE.out 30 _) ?_
  rintro e v1 ⟨rfl, hb1⟩
  have s1 := And.intro ((hb1.cell (block_lt_cell h0.1)).trans h0.1) (And.intro ((hb1.cell (block_lt_cell h0.2.1)).trans h0.2.1) ((hb1.cell (block_lt_cell h0.2.2)).trans h0.2.2))
  refine ⟨_, rfl, s1, ?_⟩
  simp only [List.setIfInBounds_toArray, List.set_cons_zero, List.set_cons_succ]
  have bd : Below x1.heap.size x1 x1.drew := ⟨rfl, rfl, rfl, Nat.le_refl _, fun _ _ => rfl⟩
  have HB2 := Lib.hid (bTr (bTr HB1.out bd) hb1)
  refine hCallR (i := 2) (k := 32) (by kernel_rfl) rfl rfl (by rfl) 8 #[.agg #[.int .i64 b, .int .i64 cy, .slice sp nt sc], .agg #[.int .i64 30, .int .i64 30, .int .i64 30, .int .i64 30, .int .i64 30, .int .i64 30, .int .i64 30, .int .i64 30]] (by go_simp) (HN.out _ (HT.out.below HB2.out)) ?_
  rintro e v2 ⟨rfl, hb2⟩
  have s2 := And.intro ((hb2.cell (block_lt_cell s1.1)).trans s1.1) (And.intro ((hb2.cell (block_lt_cell s1.2.1)).trans s1.2.1) ((hb2.cell (block_lt_cell s1.2.2)).trans s1.2.2))
  have HB3 := Lib.hid (bTr HB2.out hb2)
  refine ⟨_, rfl, s2, ?_⟩
  simp only [List.setIfInBounds_toArray, List.set_cons_zero, List.set_cons_succ]
  refine hTakeS (i := 3) (k := 29) (v := .tuple #[.pointer none, .int .i64 cv]) rfl rfl (by kernel_rfl) (by kernel_rfl) (by kernel_rfl) (fun cx ax wx hx => HP9.out cx ax _ _ wx hx) (yieldsIf_val (by rfl) (by intro W; go_simp)) s2 ?_
  simp only [List.setIfInBounds_toArray, List.set_cons_zero, List.set_cons_succ]
  refine hTakeS (i := 4) (k := 33) (v := .pointer none) rfl rfl (by kernel_rfl) (by kernel_rfl) (by kernel_rfl) (fun cx ax wx hx => HP9.out cx ax _ _ wx hx) (yieldsIf_val (by rfl) (by intro W; go_simp)) s2 ?_
  simp only [List.setIfInBounds_toArray, List.set_cons_zero, List.set_cons_succ]
  refine hTakeS (i := 5) (k := 34) (v := .int .i64 cv) rfl rfl (by kernel_rfl) (by kernel_rfl) (by kernel_rfl) (fun cx ax wx hx => HP9.out cx ax _ _ wx hx) (yieldsIf_val (by rfl) (by intro W; go_simp)) s2 ?_
  simp only [List.setIfInBounds_toArray, List.set_cons_zero, List.set_cons_succ]
  refine hTakeS (i := 6) (k := 5) (v := .pointer none) rfl rfl (by kernel_rfl) (by kernel_rfl) (by kernel_rfl) (fun cx ax wx hx => HP9.out cx ax _ _ wx hx) (yieldsIf_val (by rfl) (by intro W; go_simp)) s2 ?_
  simp only [List.setIfInBounds_toArray, List.set_cons_zero, List.set_cons_succ]
  refine hTakeS (i := 7) (k := 6) (v := .int .i64 cv) rfl rfl (by kernel_rfl) (by kernel_rfl) (by kernel_rfl) (fun cx ax wx hx => HP9.out cx ax _ _ wx hx) (yieldsIf_val (by rfl) (by intro W; go_simp)) s2 ?_
  simp only [List.setIfInBounds_toArray, List.set_cons_zero, List.set_cons_succ]
  refine wpAnyH_done (by kernel_rfl) ?_ _
  clear s1 s2 h0 hb1 hb2 l0 l1 l2
  go_wp2_with fail
  refine HQ9.out _ _ _ ?_
  go_ret
  exact ⟨rfl, HB3.out⟩

end Go.Proofs.Ytllmfkodgalklaa
