/- For every list of gates and every row of frames PortWhens answers true: looked at just when the port says, all that can go out does, ahead of such a time nothing does, and what is left never has time enough. No condition. Written by gen_powhens.py. -/
import Derived.Test.YtllmfkodgalklaaPoWqH
import Derived.Test.YtllmfkodgalklaaFPortWhens
import Derived.Test.YtllmfkodgalklaaPoLaw
namespace Go.Proofs.Ytllmfkodgalklaa
open Go.RowKit Go.Joins Go.Deep

theorem WpS.start {w W : World} {k P : Nat} {b cy : Int} {sl : Value} {ts : List (Int × Int)} {r : Nat → Int} (hp : PoL w W k P (fun j => j = P) (PL.new b cy ts) (LS.new r)) (hk : w.heap.size < k) (hP : w.heap.size < P) (hl : LB W w.heap.size b cy sl) (ha : TArg w sl ts) : WpS w k P b cy sl ts (fun j => j = P) (LS.new r) W :=
  ⟨hp, hl, ⟨by omega, fun e => by have e2 : w.heap.size = P := e; omega⟩, ha⟩
set_option maxRecDepth 1000000 in
set_option maxHeartbeats 16000000 in
theorem pwhens_a (b cy : Int) (sp : Option Addr) (nt sc : Nat) (ts : List (Int × Int)) (p : Option Addr) (n cc : Nat) (w : World) (ht : TArg w (.slice sp nt sc) ts) (hnt : ts.length = nt) (h1 : 64 < nt) : Calls Try.prog 4 #[.agg #[.int .i64 b, .int .i64 cy, .slice sp nt sc], .slice p n cc] w fun e w' => e = .returned (.bool true) ∧ Below w.heap.size w w' := by
  have HH := Lib.hid lhead_ret
  have HE := Lib.hid (fun n W => eight_lit n W)
  have HK0 : Hid ((w.alloc (.cells #[.int .i64 b, .int .i64 cy, .slice sp nt sc] 24)).heap[w.heap.size]? = some (.cells #[.int .i64 b, .int .i64 cy, .slice sp nt sc] 24)) := Lib.hid (heap_alloc_one w _)
  have HT := Lib.hid ht
  obtain ⟨cv, hcv⟩ : ∃ v, chkV b cy ts = v := ⟨_, rfl⟩
  have HCK : Hid (∀ V, TArg V (.slice sp nt sc) ts → Calls Try.prog 10 #[.agg #[.int .i64 b, .int .i64 cy, .slice sp nt sc]] V fun e w' => e = .returned (.int .i64 cv) ∧ Below V.heap.size V w') := Lib.hid (fun V hV => by have k := check_any b cy (.slice sp nt sc) ts V hV; rw [hcv] at k; exact k)
  have d1 : decide ((64 : Int) < (nt : Int)) = true := decide_eq_true (by omega)
  clear ht hnt
  try clear hcv
  go_enter Try.func4, Try.ntmps4
  go_wp2_with (first
    | (go_at_call 7; (with_reducible refine (HH.out _).mono ?_); rintro e x1 ⟨rfl, hb⟩; have HB0 := Lib.hid (bTr (bAl (bRef w) (.cells #[.int .i64 b, .int .i64 cy, .slice sp nt sc] 24)) hb); have HB1 := HB0; have HK1 := Lib.hid ((hb.block _ (lt_of_heap HK0.out)).trans HK0.out); have l0 : x1.cell? ⟨w.heap.size, 0, none⟩ = some (.int .i64 b) := cell_of_row _ _ _ _ _ _ HK1.out; have l1 : x1.cell? ⟨w.heap.size, 1, none⟩ = some (.int .i64 cy) := cell_of_row _ _ _ _ _ _ HK1.out; have l2 : x1.cell? ⟨w.heap.size, 2, none⟩ = some (.slice sp nt sc) := cell_of_row _ _ _ _ _ _ HK1.out; clear hb)
    | (go_at_call 10; (with_reducible refine (HCK.out _ (HT.out.below HB0.out)).mono ?_); rintro e x2 ⟨rfl, hb⟩; replace HB1 := Lib.hid (bTr HB0.out hb); have HK2 := Lib.hid ((hb.block _ (lt_of_heap HK1.out)).trans HK1.out); clear l0 l1 l2; have l0 : x2.cell? ⟨w.heap.size, 0, none⟩ = some (.int .i64 b) := cell_of_row _ _ _ _ _ _ HK2.out; have l1 : x2.cell? ⟨w.heap.size, 1, none⟩ = some (.int .i64 cy) := cell_of_row _ _ _ _ _ _ HK2.out; have l2 : x2.cell? ⟨w.heap.size, 2, none⟩ = some (.slice sp nt sc) := cell_of_row _ _ _ _ _ _ HK2.out; clear hb))
  go_ret
  exact ⟨rfl, HB1.out⟩
set_option maxRecDepth 1000000 in
set_option maxHeartbeats 16000000 in
theorem pwhens_b (b cy : Int) (sp : Option Addr) (nt sc : Nat) (ts : List (Int × Int)) (p : Option Addr) (n cc : Nat) (w : World) (ht : TArg w (.slice sp nt sc) ts) (hnt : ts.length = nt) (h1 : ¬ 64 < nt) (h2 : 20 < n) : Calls Try.prog 4 #[.agg #[.int .i64 b, .int .i64 cy, .slice sp nt sc], .slice p n cc] w fun e w' => e = .returned (.bool true) ∧ Below w.heap.size w w' := by
  have HH := Lib.hid lhead_ret
  have HE := Lib.hid (fun n W => eight_lit n W)
  have HK0 : Hid ((w.alloc (.cells #[.int .i64 b, .int .i64 cy, .slice sp nt sc] 24)).heap[w.heap.size]? = some (.cells #[.int .i64 b, .int .i64 cy, .slice sp nt sc] 24)) := Lib.hid (heap_alloc_one w _)
  have HT := Lib.hid ht
  obtain ⟨cv, hcv⟩ : ∃ v, chkV b cy ts = v := ⟨_, rfl⟩
  have HCK : Hid (∀ V, TArg V (.slice sp nt sc) ts → Calls Try.prog 10 #[.agg #[.int .i64 b, .int .i64 cy, .slice sp nt sc]] V fun e w' => e = .returned (.int .i64 cv) ∧ Below V.heap.size V w') := Lib.hid (fun V hV => by have k := check_any b cy (.slice sp nt sc) ts V hV; rw [hcv] at k; exact k)
  have d1 : decide ((64 : Int) < (nt : Int)) = false := decide_eq_false (by omega)
  have d2 : decide ((20 : Int) < (n : Int)) = true := decide_eq_true (by omega)
  clear ht hnt
  try clear hcv
  go_enter Try.func4, Try.ntmps4
  go_wp2_with (first
    | (go_at_call 7; (with_reducible refine (HH.out _).mono ?_); rintro e x1 ⟨rfl, hb⟩; have HB0 := Lib.hid (bTr (bAl (bRef w) (.cells #[.int .i64 b, .int .i64 cy, .slice sp nt sc] 24)) hb); have HB1 := HB0; have HK1 := Lib.hid ((hb.block _ (lt_of_heap HK0.out)).trans HK0.out); have l0 : x1.cell? ⟨w.heap.size, 0, none⟩ = some (.int .i64 b) := cell_of_row _ _ _ _ _ _ HK1.out; have l1 : x1.cell? ⟨w.heap.size, 1, none⟩ = some (.int .i64 cy) := cell_of_row _ _ _ _ _ _ HK1.out; have l2 : x1.cell? ⟨w.heap.size, 2, none⟩ = some (.slice sp nt sc) := cell_of_row _ _ _ _ _ _ HK1.out; clear hb)
    | (go_at_call 10; (with_reducible refine (HCK.out _ (HT.out.below HB0.out)).mono ?_); rintro e x2 ⟨rfl, hb⟩; replace HB1 := Lib.hid (bTr HB0.out hb); have HK2 := Lib.hid ((hb.block _ (lt_of_heap HK1.out)).trans HK1.out); clear l0 l1 l2; have l0 : x2.cell? ⟨w.heap.size, 0, none⟩ = some (.int .i64 b) := cell_of_row _ _ _ _ _ _ HK2.out; have l1 : x2.cell? ⟨w.heap.size, 1, none⟩ = some (.int .i64 cy) := cell_of_row _ _ _ _ _ _ HK2.out; have l2 : x2.cell? ⟨w.heap.size, 2, none⟩ = some (.slice sp nt sc) := cell_of_row _ _ _ _ _ _ HK2.out; clear hb))
  go_ret
  exact ⟨rfl, HB1.out⟩
set_option maxRecDepth 1000000 in
set_option maxHeartbeats 16000000 in
theorem pwhens_c (b cy : Int) (sp : Option Addr) (nt sc : Nat) (ts : List (Int × Int)) (p : Option Addr) (n cc : Nat) (w : World) (ht : TArg w (.slice sp nt sc) ts) (hnt : ts.length = nt) (h1 : ¬ 64 < nt) (h2 : ¬ 20 < n) (hz : chkV b cy ts ≠ 0) : Calls Try.prog 4 #[.agg #[.int .i64 b, .int .i64 cy, .slice sp nt sc], .slice p n cc] w fun e w' => e = .returned (.bool true) ∧ Below w.heap.size w w' := by
  have HH := Lib.hid lhead_ret
  have HE := Lib.hid (fun n W => eight_lit n W)
  have HK0 : Hid ((w.alloc (.cells #[.int .i64 b, .int .i64 cy, .slice sp nt sc] 24)).heap[w.heap.size]? = some (.cells #[.int .i64 b, .int .i64 cy, .slice sp nt sc] 24)) := Lib.hid (heap_alloc_one w _)
  have HT := Lib.hid ht
  obtain ⟨cv, hcv⟩ : ∃ v, chkV b cy ts = v := ⟨_, rfl⟩
  have HCK : Hid (∀ V, TArg V (.slice sp nt sc) ts → Calls Try.prog 10 #[.agg #[.int .i64 b, .int .i64 cy, .slice sp nt sc]] V fun e w' => e = .returned (.int .i64 cv) ∧ Below V.heap.size V w') := Lib.hid (fun V hV => by have k := check_any b cy (.slice sp nt sc) ts V hV; rw [hcv] at k; exact k)
  have d1 : decide ((64 : Int) < (nt : Int)) = false := decide_eq_false (by omega)
  have d2 : decide ((20 : Int) < (n : Int)) = false := decide_eq_false (by omega)
  have dz : (cv != 0) = true := by rw [← hcv]; simpa using hz
  clear hz
  clear ht hnt
  try clear hcv
  go_enter Try.func4, Try.ntmps4
  go_wp2_with (first
    | (go_at_call 7; (with_reducible refine (HH.out _).mono ?_); rintro e x1 ⟨rfl, hb⟩; have HB0 := Lib.hid (bTr (bAl (bRef w) (.cells #[.int .i64 b, .int .i64 cy, .slice sp nt sc] 24)) hb); have HB1 := HB0; have HK1 := Lib.hid ((hb.block _ (lt_of_heap HK0.out)).trans HK0.out); have l0 : x1.cell? ⟨w.heap.size, 0, none⟩ = some (.int .i64 b) := cell_of_row _ _ _ _ _ _ HK1.out; have l1 : x1.cell? ⟨w.heap.size, 1, none⟩ = some (.int .i64 cy) := cell_of_row _ _ _ _ _ _ HK1.out; have l2 : x1.cell? ⟨w.heap.size, 2, none⟩ = some (.slice sp nt sc) := cell_of_row _ _ _ _ _ _ HK1.out; clear hb)
    | (go_at_call 10; (with_reducible refine (HCK.out _ (HT.out.below HB0.out)).mono ?_); rintro e x2 ⟨rfl, hb⟩; replace HB1 := Lib.hid (bTr HB0.out hb); have HK2 := Lib.hid ((hb.block _ (lt_of_heap HK1.out)).trans HK1.out); clear l0 l1 l2; have l0 : x2.cell? ⟨w.heap.size, 0, none⟩ = some (.int .i64 b) := cell_of_row _ _ _ _ _ _ HK2.out; have l1 : x2.cell? ⟨w.heap.size, 1, none⟩ = some (.int .i64 cy) := cell_of_row _ _ _ _ _ _ HK2.out; have l2 : x2.cell? ⟨w.heap.size, 2, none⟩ = some (.slice sp nt sc) := cell_of_row _ _ _ _ _ _ HK2.out; clear hb))
  go_ret
  exact ⟨rfl, HB1.out⟩
set_option maxRecDepth 1000000 in
set_option maxHeartbeats 16000000 in
theorem pwhens_d (b cy : Int) (sp : Option Addr) (nt sc : Nat) (ts : List (Int × Int)) (p : Option Addr) (n cc : Nat) (w : World) (ht : TArg w (.slice sp nt sc) ts) (hnt : ts.length = nt) (h1 : ¬ 64 < nt) (h2 : ¬ 20 < n) (hz : chkV b cy ts = 0) (h4 : 16777216 < cy) : Calls Try.prog 4 #[.agg #[.int .i64 b, .int .i64 cy, .slice sp nt sc], .slice p n cc] w fun e w' => e = .returned (.bool true) ∧ Below w.heap.size w w' := by
  have HH := Lib.hid lhead_ret
  have HE := Lib.hid (fun n W => eight_lit n W)
  have HK0 : Hid ((w.alloc (.cells #[.int .i64 b, .int .i64 cy, .slice sp nt sc] 24)).heap[w.heap.size]? = some (.cells #[.int .i64 b, .int .i64 cy, .slice sp nt sc] 24)) := Lib.hid (heap_alloc_one w _)
  have HT := Lib.hid ht
  obtain ⟨cv, hcv⟩ : ∃ v, chkV b cy ts = v := ⟨_, rfl⟩
  have HCK : Hid (∀ V, TArg V (.slice sp nt sc) ts → Calls Try.prog 10 #[.agg #[.int .i64 b, .int .i64 cy, .slice sp nt sc]] V fun e w' => e = .returned (.int .i64 cv) ∧ Below V.heap.size V w') := Lib.hid (fun V hV => by have k := check_any b cy (.slice sp nt sc) ts V hV; rw [hcv] at k; exact k)
  have d1 : decide ((64 : Int) < (nt : Int)) = false := decide_eq_false (by omega)
  have d2 : decide ((20 : Int) < (n : Int)) = false := decide_eq_false (by omega)
  have d4 : decide ((16777216 : Int) < cy) = true := decide_eq_true (by omega)
  obtain rfl : cv = 0 := hcv.symm.trans hz
  clear hz hcv
  clear ht hnt
  try clear hcv
  go_enter Try.func4, Try.ntmps4
  go_wp2_with (first
    | (go_at_call 7; (with_reducible refine (HH.out _).mono ?_); rintro e x1 ⟨rfl, hb⟩; have HB0 := Lib.hid (bTr (bAl (bRef w) (.cells #[.int .i64 b, .int .i64 cy, .slice sp nt sc] 24)) hb); have HB1 := HB0; have HK1 := Lib.hid ((hb.block _ (lt_of_heap HK0.out)).trans HK0.out); have l0 : x1.cell? ⟨w.heap.size, 0, none⟩ = some (.int .i64 b) := cell_of_row _ _ _ _ _ _ HK1.out; have l1 : x1.cell? ⟨w.heap.size, 1, none⟩ = some (.int .i64 cy) := cell_of_row _ _ _ _ _ _ HK1.out; have l2 : x1.cell? ⟨w.heap.size, 2, none⟩ = some (.slice sp nt sc) := cell_of_row _ _ _ _ _ _ HK1.out; clear hb)
    | (go_at_call 10; (with_reducible refine (HCK.out _ (HT.out.below HB0.out)).mono ?_); rintro e x2 ⟨rfl, hb⟩; replace HB1 := Lib.hid (bTr HB0.out hb); have HK2 := Lib.hid ((hb.block _ (lt_of_heap HK1.out)).trans HK1.out); clear l0 l1 l2; have l0 : x2.cell? ⟨w.heap.size, 0, none⟩ = some (.int .i64 b) := cell_of_row _ _ _ _ _ _ HK2.out; have l1 : x2.cell? ⟨w.heap.size, 1, none⟩ = some (.int .i64 cy) := cell_of_row _ _ _ _ _ _ HK2.out; have l2 : x2.cell? ⟨w.heap.size, 2, none⟩ = some (.slice sp nt sc) := cell_of_row _ _ _ _ _ _ HK2.out; clear hb))
  go_ret
  exact ⟨rfl, HB1.out⟩
set_option maxRecDepth 1000000 in
set_option maxHeartbeats 16000000 in
theorem pwhens_e (b cy : Int) (sp : Option Addr) (nt sc : Nat) (ts : List (Int × Int)) (p : Option Addr) (n cc : Nat) (w : World) (ht : TArg w (.slice sp nt sc) ts) (hnt : ts.length = nt) (ha : SArg w (.slice p n cc) n) (h1 : ¬ 64 < nt) (h2 : ¬ 20 < n) (hz : chkV b cy ts = 0) (h4 : ¬ 16777216 < cy) : Calls Try.prog 4 #[.agg #[.int .i64 b, .int .i64 cy, .slice sp nt sc], .slice p n cc] w fun e w' => e = .returned (.bool true) ∧ Below w.heap.size w w' := by
  have HH := Lib.hid lhead_ret
  have HE := Lib.hid (fun n W => eight_lit n W)
  have HK0 : Hid ((w.alloc (.cells #[.int .i64 b, .int .i64 cy, .slice sp nt sc] 24)).heap[w.heap.size]? = some (.cells #[.int .i64 b, .int .i64 cy, .slice sp nt sc] 24)) := Lib.hid (heap_alloc_one w _)
  have HT := Lib.hid ht
  obtain ⟨cv, hcv⟩ : ∃ v, chkV b cy ts = v := ⟨_, rfl⟩
  have HCK : Hid (∀ V, TArg V (.slice sp nt sc) ts → Calls Try.prog 10 #[.agg #[.int .i64 b, .int .i64 cy, .slice sp nt sc]] V fun e w' => e = .returned (.int .i64 cv) ∧ Below V.heap.size V w') := Lib.hid (fun V hV => by have k := check_any b cy (.slice sp nt sc) ts V hV; rw [hcv] at k; exact k)
  have d1 : decide ((64 : Int) < (nt : Int)) = false := decide_eq_false (by omega)
  have d2 : decide ((20 : Int) < (n : Int)) = false := decide_eq_false (by omega)
  have d4 : decide ((16777216 : Int) < cy) = false := decide_eq_false (by omega)
  obtain rfl : cv = 0 := hcv.symm.trans hz
  have HA := Lib.hid ha
  have HZ := Lib.hid hz
  have HAR := Lib.hid (show n ≤ 20 ∧ nt ≤ 64 ∧ cy ≤ 16777216 from ⟨by omega, by omega, by omega⟩)
  have HN : Hid (∀ V, Below w.heap.size w V → TArg V (.slice sp nt sc) ts → Calls Try.prog 8 #[.agg #[.int .i64 b, .int .i64 cy, .slice sp nt sc], .agg #[.int .i64 100, .int .i64 100, .int .i64 100, .int .i64 100, .int .i64 100, .int .i64 100, .int .i64 100, .int .i64 100]] V fun e w' => ∃ k P, e = .returned (.tuple #[.pointer (some ⟨k, 0, none⟩), .int .i64 0]) ∧ V.heap.size ≤ k ∧ V.heap.size ≤ P ∧ PoL w w' k P (fun j => j = P) (PL.new b cy ts) (LS.new (fun _ => 100)) ∧ Below V.heap.size V w') := Lib.hid (fun V hV hT => pnew_ok hV b cy (.slice sp nt sc) ts hT hz (fun _ => 100) (fun _ _ => ⟨show (0 : Int) ≤ 100 by decide, show (100 : Int) ≤ 4096 by decide⟩))
  clear ht hnt hz hcv ha h1 h2 h4
  go_enter Try.func4, Try.ntmps4
  refine wp_hideP (fun cx ax kx vx wx hx => by cases kx <;> exact hx) (fun Q9 hQ9 hP9 => ?_)
  have HQ9 := Lib.hid hQ9
  have HP9 := Lib.hid hP9
  clear hQ9 hP9
  go_upto_region 5 with (first
    | (go_at_call 7; (with_reducible refine (HH.out _).mono ?_); rintro e x1 ⟨rfl, hb⟩; have HB0 := Lib.hid (bTr (bAl (bRef w) (.cells #[.int .i64 b, .int .i64 cy, .slice sp nt sc] 24)) hb); have HB1 := HB0; have HK1 := Lib.hid ((hb.block _ (lt_of_heap HK0.out)).trans HK0.out); have l0 : x1.cell? ⟨w.heap.size, 0, none⟩ = some (.int .i64 b) := cell_of_row _ _ _ _ _ _ HK1.out; have l1 : x1.cell? ⟨w.heap.size, 1, none⟩ = some (.int .i64 cy) := cell_of_row _ _ _ _ _ _ HK1.out; have l2 : x1.cell? ⟨w.heap.size, 2, none⟩ = some (.slice sp nt sc) := cell_of_row _ _ _ _ _ _ HK1.out; clear hb)
    | (go_at_call 10; (with_reducible refine (HCK.out _ (HT.out.below HB0.out)).mono ?_); rintro e x2 ⟨rfl, hb⟩; replace HB1 := Lib.hid (bTr HB0.out hb); have HK2 := Lib.hid ((hb.block _ (lt_of_heap HK1.out)).trans HK1.out); clear l0 l1 l2; have l0 : x2.cell? ⟨w.heap.size, 0, none⟩ = some (.int .i64 b) := cell_of_row _ _ _ _ _ _ HK2.out; have l1 : x2.cell? ⟨w.heap.size, 1, none⟩ = some (.int .i64 cy) := cell_of_row _ _ _ _ _ _ HK2.out; have l2 : x2.cell? ⟨w.heap.size, 2, none⟩ = some (.slice sp nt sc) := cell_of_row _ _ _ _ _ _ HK2.out; clear hb))
  refine wp_region_held_drew (S := fun V => V.cell? ⟨w.heap.size, 0, none⟩ = some (.int .i64 b) ∧ V.cell? ⟨w.heap.size, 1, none⟩ = some (.int .i64 cy) ∧ V.cell? ⟨w.heap.size, 2, none⟩ = some (.slice sp nt sc)) (by kernel_rfl) ⟨l0, l1, l2⟩ (fun h0 => ?_)
  refine hTakeS (i := 0) (k := 50) (v := .agg #[.int .i64 b, .int .i64 cy, .slice sp nt sc]) rfl rfl (by kernel_rfl) (by kernel_rfl) (by kernel_rfl) (fun cx ax wx hx => HP9.out cx ax _ _ wx hx) (.inl ⟨by rfl, fun W hW => by obtain ⟨b0, b1, b2⟩ := hW; go_simp⟩) h0 ?_
  simp only [List.setIfInBounds_toArray, List.set_cons_zero, List.set_cons_succ]
  refine hCallR (i := 1) (k := 51) (by kernel_rfl) rfl rfl (by rfl) 9 #[.int .i64 100] (by go_simp) (HE.out 100 _) ?_
  rintro e v1 ⟨rfl, hb1⟩
  have s1 := And.intro ((hb1.cell (block_lt_cell h0.1)).trans h0.1) (And.intro ((hb1.cell (block_lt_cell h0.2.1)).trans h0.2.1) ((hb1.cell (block_lt_cell h0.2.2)).trans h0.2.2))
  refine ⟨_, rfl, s1, ?_⟩
  simp only [List.setIfInBounds_toArray, List.set_cons_zero, List.set_cons_succ]
  have bd : Below x2.heap.size x2 x2.drew := ⟨rfl, rfl, rfl, Nat.le_refl _, fun _ _ => rfl⟩
  have HB2 := Lib.hid (bTr (bTr HB1.out bd) hb1)
  refine hCallR (i := 2) (k := 52) (by kernel_rfl) rfl rfl (by rfl) 8 #[.agg #[.int .i64 b, .int .i64 cy, .slice sp nt sc], .agg #[.int .i64 100, .int .i64 100, .int .i64 100, .int .i64 100, .int .i64 100, .int .i64 100, .int .i64 100, .int .i64 100]] (by go_simp) (HN.out _ HB2.out (HT.out.below HB2.out)) ?_
  rintro e v2 ⟨k, P, rfl, hk1, hk2, hpo, hb2⟩
  have s2 := And.intro ((hb2.cell (block_lt_cell s1.1)).trans s1.1) (And.intro ((hb2.cell (block_lt_cell s1.2.1)).trans s1.2.1) ((hb2.cell (block_lt_cell s1.2.2)).trans s1.2.2))
  have HB3 := Lib.hid (bTr HB2.out hb2)
  have hlt := block_lt_cell s1.1
  have HLT : Hid (w.heap.size < k ∧ w.heap.size < P) := Lib.hid ⟨by have e : (⟨w.heap.size, 0, none⟩ : Addr).block = w.heap.size := rfl; omega, by have e : (⟨w.heap.size, 0, none⟩ : Addr).block = w.heap.size := rfl; omega⟩
  have HL3 : Hid (LB v2 w.heap.size b cy (.slice sp nt sc)) := Lib.hid ((hb2.block _ hlt).trans ((hb1.block _ (block_lt_cell h0.1)).trans HK2.out))
  have HPO := Lib.hid hpo
  clear hlt
  refine ⟨_, rfl, s2, ?_⟩
  simp only [List.setIfInBounds_toArray, List.set_cons_zero, List.set_cons_succ]
  refine hTakeS (i := 3) (k := 49) (v := .tuple #[.pointer (some ⟨k, 0, none⟩), .int .i64 0]) rfl rfl (by kernel_rfl) (by kernel_rfl) (by kernel_rfl) (fun cx ax wx hx => HP9.out cx ax _ _ wx hx) (yieldsIf_val (by rfl) (by intro W; go_simp)) s2 ?_
  simp only [List.setIfInBounds_toArray, List.set_cons_zero, List.set_cons_succ]
  refine hTakeS (i := 4) (k := 53) (v := .pointer (some ⟨k, 0, none⟩)) rfl rfl (by kernel_rfl) (by kernel_rfl) (by kernel_rfl) (fun cx ax wx hx => HP9.out cx ax _ _ wx hx) (yieldsIf_val (by rfl) (by intro W; go_simp)) s2 ?_
  simp only [List.setIfInBounds_toArray, List.set_cons_zero, List.set_cons_succ]
  refine hTakeS (i := 5) (k := 54) (v := .int .i64 0) rfl rfl (by kernel_rfl) (by kernel_rfl) (by kernel_rfl) (fun cx ax wx hx => HP9.out cx ax _ _ wx hx) (yieldsIf_val (by rfl) (by intro W; go_simp)) s2 ?_
  simp only [List.setIfInBounds_toArray, List.set_cons_zero, List.set_cons_succ]
  refine hTakeS (i := 6) (k := 5) (v := .pointer (some ⟨k, 0, none⟩)) rfl rfl (by kernel_rfl) (by kernel_rfl) (by kernel_rfl) (fun cx ax wx hx => HP9.out cx ax _ _ wx hx) (yieldsIf_val (by rfl) (by intro W; go_simp)) s2 ?_
  simp only [List.setIfInBounds_toArray, List.set_cons_zero, List.set_cons_succ]
  refine hTakeS (i := 7) (k := 6) (v := .int .i64 0) rfl rfl (by kernel_rfl) (by kernel_rfl) (by kernel_rfl) (fun cx ax wx hx => HP9.out cx ax _ _ wx hx) (yieldsIf_val (by rfl) (by intro W; go_simp)) s2 ?_
  simp only [List.setIfInBounds_toArray, List.set_cons_zero, List.set_cons_succ]
  refine wpAnyH_done (by kernel_rfl) ?_ _
  clear s1 s2 h0 hb1 hb2 hk1 hk2 hpo l0 l1 l2 d1 d2 d4
  have HW0 := Lib.hid (WpS.start HPO.out HLT.out.1 HLT.out.2 HL3.out HT.out)
  go_upto_if 56 with (fail)
  refine wp_cond_false (by go_simp) ?_
  go_step
  go_step
  go_step
  apply wp_seq_k
  intro KA hKA
  have HKA := Lib.hid hKA
  clear hKA
  go_wp2_with fail
  refine HKA.out _ _ ?_
  apply wp_seq_k
  intro KB hKB
  have HKB := Lib.hid hKB
  clear hKB
  refine rn_its HW0.out rfl rfl HA.out HAR.out.1 ?_
  intro z4 z8 z9 z10 z57 z58 z59 z60 z61 z62 z63 z64 z65 z66 z67 z68 z69 z70 z71 z72 z73 z74 z75 z76 z77 z78 z79 z80 z81 z82 z83 z84 z85 z86 z87 z88 z89 z90 z91 z92 z93 z94 z95 z96 z97 s1 F1 m W1 hO1 ht1 hm1
  refine HKB.out _ _ ?_
  have HO1 := Lib.hid hO1
  have HM1 := Lib.hid (And.intro ht1 hm1)
  obtain ⟨c0, _, _⟩ := hO1.lst3
  obtain ⟨now, hnow⟩ : ∃ x, b % 65536 = x := ⟨_, rfl⟩
  have a16 : bits .and .i64 b 65535 = now := by rw [← hnow]; exact and_low b 16 (by omega)
  have HNW := Lib.hid (show 0 ≤ now ∧ now ≤ 65535 by omega)
  clear hO1 ht1 hm1 hnow
  apply wp_seq_k
  intro KC hKC
  have HKC := Lib.hid hKC
  clear hKC
  go_wp2_with fail
  refine HKC.out _ _ ?_
  clear a16 c0
  apply wp_seq_k
  intro KD hKD
  have HKD := Lib.hid hKD
  clear hKD
  go_wp2_with fail
  refine HKD.out _ _ ?_
  apply wp_seq_k
  intro KE hKE
  have HKE := Lib.hid hKE
  clear hKE
  refine rn_looks HO1.out HNW.out.1 HNW.out.2 HM1.out.1 HM1.out.2 HZ.out HAR.out.2.2 (fun cx ax kx vx wx hx => HP9.out cx ax kx vx wx hx) ?_
  intro z4 z13 z14 z15 z16 z17 z18 z19 z20 z21 z101 z102 z103 z104 z105 z106 z107 z108 z109 z110 z111 z112 z113 z114 z115 z116 z117 z118 z119 z120 z121 z122 z123 z124 z125 z126 z127 z128 z129 z130 z131 z132 z133 z134 z135 z136 z137 z138 z139 z140 z141 z142 z143 z144 z145 z146 z147 z148 z149 z150 z151 z152 z153 z154 now2 p2 s2 F2 W2 hO2 hnv hn0 hn1 hpm
  refine HKE.out _ _ ?_
  have HO2 := Lib.hid hO2
  have HPM := Lib.hid hpm
  have HN2 := Lib.hid (And.intro hnv (And.intro hn0 hn1))
  clear hO2 hpm hnv hn0 hn1
  apply wp_seq_k
  intro KF hKF
  have HKF := Lib.hid hKF
  clear hKF
  refine rn_ou HO2.out HAR.out.2.1 HZ.out HAR.out.2.2 HN2.out.1 HN2.out.2.1 HN2.out.2.2 ?_
  intro z4 z22 z23 z24 z25 z26 z27 z155 z156 z157 z158 z159 z160 z161 z162 z163 z164 z165 z166 z167 z168 z169 z170 z171 z172 z173 z174 z175 z176 z177 z178 z179 z180 z181 z182 z183 z184 z185 z186 z187 z188 z189 z190 z191 z192 z193 z194 z195 z196 z197 z198 z199 W3 hb3
  refine HKF.out _ _ ?_
  have HB9 := Lib.hid (HO2.out.po.bel.trans (hb3.mono HO2.out.po.bel.size))
  have dp : decide ((p2 : Int) ≤ (m : Int)) = true := decide_eq_true (by have := HPM.out; omega)
  have dp2 : decide (p2 ≤ m) = true := decide_eq_true (by have := HPM.out; omega)
  clear hb3
  go_wp2_with fail
  refine HQ9.out _ _ _ ?_
  go_ret
  exact ⟨rfl, HB9.out⟩

theorem portWhens_holds : Rows.PortWhensSaid := portWhens_of (fun b cy sl ts v n w _ _ ht ha => by
  obtain ⟨sp, sc, rfl⟩ := ht.slice
  obtain ⟨p, cc, rfl⟩ := ha.slice
  by_cases h1 : 64 < ts.length
  · exact pwhens_a b cy sp _ sc ts p n cc w ht rfl h1
  by_cases h2 : 20 < n
  · exact pwhens_b b cy sp _ sc ts p n cc w ht rfl h1 h2
  by_cases hz : chkV b cy ts = 0
  · by_cases h4 : 16777216 < cy
    · exact pwhens_d b cy sp _ sc ts p n cc w ht rfl h1 h2 hz h4
    · exact pwhens_e b cy sp _ sc ts p n cc w ht rfl ha h1 h2 hz h4
  · exact pwhens_c b cy sp _ sc ts p n cc w ht rfl h1 h2 hz)

end Go.Proofs.Ytllmfkodgalklaa
