/- For every stream, list of gates and row of times SieveGates answers true: a stream's frames pass just while its gate is open. No condition. -/
import Derived.Test.YtpdfgdjomlogbabFSieveGates
import Derived.Test.YtpdfgdjomlogbabSvGateLaw
namespace Go.Proofs.Ytpdfgdjomlogbab
open Go.RowKit Go.Joins

theorem gates_long (x : Sm) (B C : Int) (sp q : Option Addr) (sc N c : Nat) (ts : List (Int × Int)) (w : World) (h : 64 < ts.length ∨ 40 < N) :
    Calls Try.prog 6 #[.agg (SA x), .agg #[.int .i64 B, .int .i64 C, .slice sp ts.length sc], .slice q N c] w fun e w' => e = .returned (.bool true) ∧ Below w.heap.size w w' := by
  have HH := Lib.hid head_ret
  have HB0 := Lib.hid (bAl (bAl (bRef w) (.cells (SA x) 28)) (.cells #[.int .i64 B, .int .i64 C, .slice sp ts.length sc] 46))
  have HX0 := Lib.hid (((bAl (bRef (w.alloc (.cells (SA x) 28))) (.cells #[.int .i64 B, .int .i64 C, .slice sp ts.length sc] 46)).block w.heap.size (by simp)).trans (heap_alloc_one w (.cells (SA x) 28)))
  have hmc := heap_alloc_one (w.alloc (.cells (SA x) 28)) (.cells #[.int .i64 B, .int .i64 C, .slice sp ts.length sc] 46)
  rw [show (w.alloc (.cells (SA x) 28)).heap.size = w.heap.size + 1 by simp] at hmc
  have HM0 := Lib.hid hmc
  clear hmc
  by_cases h1 : 64 < ts.length
  · have d1 : decide ((64 : Int) < (ts.length : Int)) = true := decide_eq_true (by omega)
    clear h h1
    go_enter Try.func6, Try.ntmps6
    go_wp2_with (go_at_call 7; (with_reducible refine (HH.out _).mono ?_); rintro e v1 ⟨rfl, hb⟩; have HB1 := Lib.hid (bTr HB0.out hb); have HX1 := Lib.hid ((hb.block _ (lt_of_heap HX0.out)).trans HX0.out); have HM1 := Lib.hid ((hb.block _ (lt_of_heap HM0.out)).trans HM0.out); have c0 : v1.cell? ⟨w.heap.size, 0, none⟩ = some (.int .i64 x.port) := cell_of_row _ _ 0 _ _ _ HX1.out; have c8 : v1.cell? ⟨w.heap.size, 8, none⟩ = some (.bool x.src) := cell_of_row _ _ 8 _ _ _ HX1.out; have c9 : v1.cell? ⟨w.heap.size, 9, none⟩ = some (.int .i64 x.gate) := cell_of_row _ _ 9 _ _ _ HX1.out; have c11 : v1.cell? ⟨w.heap.size, 11, none⟩ = some (.int .i64 x.max) := cell_of_row _ _ 11 _ _ _ HX1.out; have c13 : v1.cell? ⟨w.heap.size, 13, none⟩ = some (.int .i64 x.rate) := cell_of_row _ _ 13 _ _ _ HX1.out; obtain ⟨f0, f8, f9, f11, f13⟩ := (⟨frozen_of_row v1 _ 0 _ _ HX1.out, frozen_of_row v1 _ 8 _ _ HX1.out, frozen_of_row v1 _ 9 _ _ HX1.out, frozen_of_row v1 _ 11 _ _ HX1.out, frozen_of_row v1 _ 13 _ _ HX1.out⟩ : _ ∧ _ ∧ _ ∧ _ ∧ _); obtain ⟨l0, l1, l2⟩ := (⟨cell_of_row _ _ 0 _ _ _ HM1.out, cell_of_row _ _ 1 _ _ _ HM1.out, cell_of_row _ _ 2 _ _ _ HM1.out⟩ : v1.cell? ⟨w.heap.size + 1, 0, none⟩ = some (.int .i64 B) ∧ v1.cell? ⟨w.heap.size + 1, 1, none⟩ = some (.int .i64 C) ∧ v1.cell? ⟨w.heap.size + 1, 2, none⟩ = some (.slice sp ts.length sc)); clear hb)
    go_ret
    exact ⟨rfl, HB1.out⟩
  · have d1 : decide ((64 : Int) < (ts.length : Int)) = false := decide_eq_false (by omega)
    have d2 : decide ((40 : Int) < (N : Int)) = true := decide_eq_true (by omega)
    clear h h1
    go_enter Try.func6, Try.ntmps6
    go_wp2_with (go_at_call 7; (with_reducible refine (HH.out _).mono ?_); rintro e v1 ⟨rfl, hb⟩; have HB1 := Lib.hid (bTr HB0.out hb); have HX1 := Lib.hid ((hb.block _ (lt_of_heap HX0.out)).trans HX0.out); have HM1 := Lib.hid ((hb.block _ (lt_of_heap HM0.out)).trans HM0.out); have c0 : v1.cell? ⟨w.heap.size, 0, none⟩ = some (.int .i64 x.port) := cell_of_row _ _ 0 _ _ _ HX1.out; have c8 : v1.cell? ⟨w.heap.size, 8, none⟩ = some (.bool x.src) := cell_of_row _ _ 8 _ _ _ HX1.out; have c9 : v1.cell? ⟨w.heap.size, 9, none⟩ = some (.int .i64 x.gate) := cell_of_row _ _ 9 _ _ _ HX1.out; have c11 : v1.cell? ⟨w.heap.size, 11, none⟩ = some (.int .i64 x.max) := cell_of_row _ _ 11 _ _ _ HX1.out; have c13 : v1.cell? ⟨w.heap.size, 13, none⟩ = some (.int .i64 x.rate) := cell_of_row _ _ 13 _ _ _ HX1.out; obtain ⟨f0, f8, f9, f11, f13⟩ := (⟨frozen_of_row v1 _ 0 _ _ HX1.out, frozen_of_row v1 _ 8 _ _ HX1.out, frozen_of_row v1 _ 9 _ _ HX1.out, frozen_of_row v1 _ 11 _ _ HX1.out, frozen_of_row v1 _ 13 _ _ HX1.out⟩ : _ ∧ _ ∧ _ ∧ _ ∧ _); obtain ⟨l0, l1, l2⟩ := (⟨cell_of_row _ _ 0 _ _ _ HM1.out, cell_of_row _ _ 1 _ _ _ HM1.out, cell_of_row _ _ 2 _ _ _ HM1.out⟩ : v1.cell? ⟨w.heap.size + 1, 0, none⟩ = some (.int .i64 B) ∧ v1.cell? ⟨w.heap.size + 1, 1, none⟩ = some (.int .i64 C) ∧ v1.cell? ⟨w.heap.size + 1, 2, none⟩ = some (.slice sp ts.length sc)); clear hb)
    go_ret
    exact ⟨rfl, HB1.out⟩
theorem gates_bad (x : Sm) (B C : Int) (sp q : Option Addr) (sc N c : Nat) (ts : List (Int × Int)) (w : World) (ht : TArg w (.slice sp ts.length sc) ts) (hl : ¬ 64 < ts.length) (hl2 : ¬ 40 < N) (hr : ¬ (Right (cutG x) 1 0 ∧ chkV B C ts = 0)) :
    Calls Try.prog 6 #[.agg (SA x), .agg #[.int .i64 B, .int .i64 C, .slice sp ts.length sc], .slice q N c] w fun e w' => e = .returned (.bool true) ∧ Below w.heap.size w w' := by
  have HH := Lib.hid head_ret
  have HB0 := Lib.hid (bAl (bAl (bRef w) (.cells (SA x) 28)) (.cells #[.int .i64 B, .int .i64 C, .slice sp ts.length sc] 46))
  have HX0 := Lib.hid (((bAl (bRef (w.alloc (.cells (SA x) 28))) (.cells #[.int .i64 B, .int .i64 C, .slice sp ts.length sc] 46)).block w.heap.size (by simp)).trans (heap_alloc_one w (.cells (SA x) 28)))
  have hmc := heap_alloc_one (w.alloc (.cells (SA x) 28)) (.cells #[.int .i64 B, .int .i64 C, .slice sp ts.length sc] 46)
  rw [show (w.alloc (.cells (SA x) 28)).heap.size = w.heap.size + 1 by simp] at hmc
  have HM0 := Lib.hid hmc
  clear hmc
  have d1 : decide ((64 : Int) < (ts.length : Int)) = false := decide_eq_false (by omega)
  have d2 : decide ((40 : Int) < (N : Int)) = false := decide_eq_false (by omega)
  have HCR := Lib.hid (fun (v1 : World) (hx : v1.heap[w.heap.size]? = some (.cells (SA x) 28 (0, 0))) => cutG_row hx)
  have HNW := Lib.hid (fun (v1 : World) (hx : v1.heap[w.heap.size]? = some (.cells (SA x) 28 (0, 0))) (hm : v1.heap[w.heap.size + 1]? = some (.cells #[.int .i64 B, .int .i64 C, .slice sp ts.length sc] 46 (0, 0))) hb => (cutG_new hx hm hb ht).mono fun e w' hh => hh.2 hr)
  obtain ⟨x', hx'⟩ : ∃ x', x' = cutG x := ⟨_, rfl⟩
  rw [← hx'] at HCR HNW
  clear hr hx' ht
  go_enter Try.func6, Try.ntmps6
  go_upto_region 10 with (go_at_call 7; (with_reducible refine (HH.out _).mono ?_); rintro e v1 ⟨rfl, hb⟩; have HB1 := Lib.hid (bTr HB0.out hb); have HX1 := Lib.hid ((hb.block _ (lt_of_heap HX0.out)).trans HX0.out); have HM1 := Lib.hid ((hb.block _ (lt_of_heap HM0.out)).trans HM0.out); have c0 : v1.cell? ⟨w.heap.size, 0, none⟩ = some (.int .i64 x.port) := cell_of_row _ _ 0 _ _ _ HX1.out; have c8 : v1.cell? ⟨w.heap.size, 8, none⟩ = some (.bool x.src) := cell_of_row _ _ 8 _ _ _ HX1.out; have c9 : v1.cell? ⟨w.heap.size, 9, none⟩ = some (.int .i64 x.gate) := cell_of_row _ _ 9 _ _ _ HX1.out; have c11 : v1.cell? ⟨w.heap.size, 11, none⟩ = some (.int .i64 x.max) := cell_of_row _ _ 11 _ _ _ HX1.out; have c13 : v1.cell? ⟨w.heap.size, 13, none⟩ = some (.int .i64 x.rate) := cell_of_row _ _ 13 _ _ _ HX1.out; obtain ⟨f0, f8, f9, f11, f13⟩ := (⟨frozen_of_row v1 _ 0 _ _ HX1.out, frozen_of_row v1 _ 8 _ _ HX1.out, frozen_of_row v1 _ 9 _ _ HX1.out, frozen_of_row v1 _ 11 _ _ HX1.out, frozen_of_row v1 _ 13 _ _ HX1.out⟩ : _ ∧ _ ∧ _ ∧ _ ∧ _); obtain ⟨l0, l1, l2⟩ := (⟨cell_of_row _ _ 0 _ _ _ HM1.out, cell_of_row _ _ 1 _ _ _ HM1.out, cell_of_row _ _ 2 _ _ _ HM1.out⟩ : v1.cell? ⟨w.heap.size + 1, 0, none⟩ = some (.int .i64 B) ∧ v1.cell? ⟨w.heap.size + 1, 1, none⟩ = some (.int .i64 C) ∧ v1.cell? ⟨w.heap.size + 1, 2, none⟩ = some (.slice sp ts.length sc)); clear hb)
  have hcx := HCR.out _ HX1.out
  have hcm := (cutG_off (w := w) (v1 := v1) (j := w.heap.size + 1) (by omega)).trans HM1.out
  have hnw := HNW.out v1 HX1.out HM1.out HB1.out
  have hsz : (((((v1.setCell ⟨w.heap.size, 9, none⟩ (.int .i64 0)).setCell ⟨w.heap.size, 13, none⟩ (.int .i64 (-1))).setCell ⟨w.heap.size, 11, none⟩ (.int .i64 0)).setCell ⟨w.heap.size, 0, none⟩ (.int .i64 (-1))).setCell ⟨w.heap.size, 8, none⟩ (.bool false)).heap.size = v1.heap.size := by simp
  rw [← hsz] at hnw
  clear hsz
  generalize (((((v1.setCell ⟨w.heap.size, 9, none⟩ (.int .i64 0)).setCell ⟨w.heap.size, 13, none⟩ (.int .i64 (-1))).setCell ⟨w.heap.size, 11, none⟩ (.int .i64 0)).setCell ⟨w.heap.size, 0, none⟩ (.int .i64 (-1))).setCell ⟨w.heap.size, 8, none⟩ (.bool false)) = V at hcx hcm hnw ⊢
  have HCX := Lib.hid hcx
  have HNV := Lib.hid hnw
  replace hcm := ((bAl (bRef V) (.cells (SA x') 28)).block _ (lt_of_heap hcm)).trans hcm
  obtain ⟨k0, k1, k2⟩ := (⟨cell_of_row _ _ 0 _ _ _ hcm, cell_of_row _ _ 1 _ _ _ hcm, cell_of_row _ _ 2 _ _ _ hcm⟩ : (V.alloc (.cells (SA x') 28)).cell? ⟨w.heap.size + 1, 0, none⟩ = some (.int .i64 B) ∧ (V.alloc (.cells (SA x') 28)).cell? ⟨w.heap.size + 1, 1, none⟩ = some (.int .i64 C) ∧ (V.alloc (.cells (SA x') 28)).cell? ⟨w.heap.size + 1, 2, none⟩ = some (.slice sp ts.length sc))
  clear hcx hcm hnw c0 c8 c9 c11 c13 f0 f8 f9 f11 f13 l0 l1 l2
  go_wp2_with (first
    | (with_reducible refine at_loadSm ?_; refine wpList_loadSm rfl _ rfl w.heap.size 0 rfl x' (row_cells HCX.out) ?_)
    | (with_reducible refine at_bsSm ?_; refine wpList_bsSm rfl _ rfl x' rfl ?_)
    | (go_at_call 8; (with_reducible refine (HNV.out).mono ?_); rintro e w2 ⟨r, hr, rfl, hb⟩; have e1 : (r != 0) = true := (by simpa using hr); have HB2 := Lib.hid hb; clear hb hr))
  go_ret
  exact ⟨rfl, HB2.out⟩
def GtRel (w W1 : World) (b g cap h hc : Nat) (x' : Sm) (B C : Int) (sl sl' : Value) (ts : List (Int × Int)) (N : Nat) (ov kv : Value) (W : World) : Prop :=
  ∃ k n : Nat, k ≤ N ∧ n ≤ k ∧ kv = .int .i64 (k : Int) ∧ ov = .int .i64 (n : Int) ∧ GB w W1 b g cap h hc x' B C sl sl' ts k n W
set_option maxRecDepth 20000 in
set_option maxHeartbeats 4000000 in
theorem gates_in (x : Sm) (B C : Int) (sp q : Option Addr) (sc N c : Nat) (ts : List (Int × Int)) (xs : List Int) (w : World) (ht : TArg w (.slice sp ts.length sc) ts) (hx : LArg w (.slice q N c) xs) (hN : N = xs.length) (hl : ¬ 64 < ts.length) (hl2 : ¬ 40 < N) (hr : Right (cutG x) 1 0 ∧ chkV B C ts = 0) :
    Calls Try.prog 6 #[.agg (SA x), .agg #[.int .i64 B, .int .i64 C, .slice sp ts.length sc], .slice q N c] w fun e w' => e = .returned (.bool true) ∧ Below w.heap.size w w' := by
  have HH := Lib.hid head_ret
  have HB0 := Lib.hid (bAl (bAl (bRef w) (.cells (SA x) 28)) (.cells #[.int .i64 B, .int .i64 C, .slice sp ts.length sc] 46))
  have HX0 := Lib.hid (((bAl (bRef (w.alloc (.cells (SA x) 28))) (.cells #[.int .i64 B, .int .i64 C, .slice sp ts.length sc] 46)).block w.heap.size (by simp)).trans (heap_alloc_one w (.cells (SA x) 28)))
  have hmc := heap_alloc_one (w.alloc (.cells (SA x) 28)) (.cells #[.int .i64 B, .int .i64 C, .slice sp ts.length sc] 46)
  rw [show (w.alloc (.cells (SA x) 28)).heap.size = w.heap.size + 1 by simp] at hmc
  have HM0 := Lib.hid hmc
  clear hmc
  have d1 : decide ((64 : Int) < (ts.length : Int)) = false := decide_eq_false (by omega)
  have d2 : decide ((40 : Int) < (N : Int)) = false := decide_eq_false (by omega)
  have HCR := Lib.hid (fun (v1 : World) (hx : v1.heap[w.heap.size]? = some (.cells (SA x) 28 (0, 0))) => cutG_row hx)
  have HNW := Lib.hid (fun (v1 : World) (hx : v1.heap[w.heap.size]? = some (.cells (SA x) 28 (0, 0))) (hm : v1.heap[w.heap.size + 1]? = some (.cells #[.int .i64 B, .int .i64 C, .slice sp ts.length sc] 46 (0, 0))) hb => (cutG_new hx hm hb ht).mono fun e w' hh => hh.1 hr)
  have HST := Lib.hid (fun W (hb : Below w.heap.size w W) (t : Int) => state_any B C (.slice sp ts.length sc) ts t W (ht.below hb))
  have HLX := Lib.hid (fun W (hb : Below w.heap.size w W) => hx.below hb)
  have HNN := Lib.hid hN
  have HXF : Hid ((cutG x).port = -1 ∧ (cutG x).src = false ∧ (cutG x).gate = 0 ∧ (cutG x).max = 0 ∧ (cutG x).rate = -1) := Lib.hid ⟨rfl, rfl, rfl, rfl, rfl⟩
  obtain ⟨x', hx'⟩ : ∃ x', x' = cutG x := ⟨_, rfl⟩
  rw [← hx'] at HCR HNW HXF
  clear hr hx' ht hx hN
  go_enter Try.func6, Try.ntmps6
  go_upto_region 10 with (go_at_call 7; (with_reducible refine (HH.out _).mono ?_); rintro e v1 ⟨rfl, hb⟩; have HB1 := Lib.hid (bTr HB0.out hb); have HX1 := Lib.hid ((hb.block _ (lt_of_heap HX0.out)).trans HX0.out); have HM1 := Lib.hid ((hb.block _ (lt_of_heap HM0.out)).trans HM0.out); have c0 : v1.cell? ⟨w.heap.size, 0, none⟩ = some (.int .i64 x.port) := cell_of_row _ _ 0 _ _ _ HX1.out; have c8 : v1.cell? ⟨w.heap.size, 8, none⟩ = some (.bool x.src) := cell_of_row _ _ 8 _ _ _ HX1.out; have c9 : v1.cell? ⟨w.heap.size, 9, none⟩ = some (.int .i64 x.gate) := cell_of_row _ _ 9 _ _ _ HX1.out; have c11 : v1.cell? ⟨w.heap.size, 11, none⟩ = some (.int .i64 x.max) := cell_of_row _ _ 11 _ _ _ HX1.out; have c13 : v1.cell? ⟨w.heap.size, 13, none⟩ = some (.int .i64 x.rate) := cell_of_row _ _ 13 _ _ _ HX1.out; obtain ⟨f0, f8, f9, f11, f13⟩ := (⟨frozen_of_row v1 _ 0 _ _ HX1.out, frozen_of_row v1 _ 8 _ _ HX1.out, frozen_of_row v1 _ 9 _ _ HX1.out, frozen_of_row v1 _ 11 _ _ HX1.out, frozen_of_row v1 _ 13 _ _ HX1.out⟩ : _ ∧ _ ∧ _ ∧ _ ∧ _); obtain ⟨l0, l1, l2⟩ := (⟨cell_of_row _ _ 0 _ _ _ HM1.out, cell_of_row _ _ 1 _ _ _ HM1.out, cell_of_row _ _ 2 _ _ _ HM1.out⟩ : v1.cell? ⟨w.heap.size + 1, 0, none⟩ = some (.int .i64 B) ∧ v1.cell? ⟨w.heap.size + 1, 1, none⟩ = some (.int .i64 C) ∧ v1.cell? ⟨w.heap.size + 1, 2, none⟩ = some (.slice sp ts.length sc)); clear hb)
  have hcx := HCR.out _ HX1.out
  have hcm := (cutG_off (w := w) (v1 := v1) (j := w.heap.size + 1) (by omega)).trans HM1.out
  have hnw := HNW.out v1 HX1.out HM1.out HB1.out
  have hsz : (((((v1.setCell ⟨w.heap.size, 9, none⟩ (.int .i64 0)).setCell ⟨w.heap.size, 13, none⟩ (.int .i64 (-1))).setCell ⟨w.heap.size, 11, none⟩ (.int .i64 0)).setCell ⟨w.heap.size, 0, none⟩ (.int .i64 (-1))).setCell ⟨w.heap.size, 8, none⟩ (.bool false)).heap.size = v1.heap.size := by simp
  rw [← hsz] at hnw
  clear hsz
  generalize (((((v1.setCell ⟨w.heap.size, 9, none⟩ (.int .i64 0)).setCell ⟨w.heap.size, 13, none⟩ (.int .i64 (-1))).setCell ⟨w.heap.size, 11, none⟩ (.int .i64 0)).setCell ⟨w.heap.size, 0, none⟩ (.int .i64 (-1))).setCell ⟨w.heap.size, 8, none⟩ (.bool false)) = V at hcx hcm hnw ⊢
  have HCX := Lib.hid hcx
  have HNV := Lib.hid hnw
  replace hcm := ((bAl (bRef V) (.cells (SA x') 28)).block _ (lt_of_heap hcm)).trans hcm
  obtain ⟨k0, k1, k2⟩ := (⟨cell_of_row _ _ 0 _ _ _ hcm, cell_of_row _ _ 1 _ _ _ hcm, cell_of_row _ _ 2 _ _ _ hcm⟩ : (V.alloc (.cells (SA x') 28)).cell? ⟨w.heap.size + 1, 0, none⟩ = some (.int .i64 B) ∧ (V.alloc (.cells (SA x') 28)).cell? ⟨w.heap.size + 1, 1, none⟩ = some (.int .i64 C) ∧ (V.alloc (.cells (SA x') 28)).cell? ⟨w.heap.size + 1, 2, none⟩ = some (.slice sp ts.length sc))
  clear hcx hcm hnw c0 c8 c9 c11 c13 f0 f8 f9 f11 f13 l0 l1 l2
  go_wp2_with (first
    | (with_reducible refine at_loadSm ?_; refine wpList_loadSm rfl _ rfl w.heap.size 0 rfl x' (row_cells HCX.out) ?_)
    | (with_reducible refine at_bsSm ?_; refine wpList_bsSm rfl _ rfl x' rfl ?_)
    | (go_at_call 8; (with_reducible refine (HNV.out).mono ?_); rintro e w2 ⟨b, g, cap, h, hc, sl', rfl, W1, hgb⟩; have HG := Lib.hid hgb; clear hgb))
  go_loopw [9, 46] (fun ov kv wz => GtRel w W1 b g cap h hc x' B C (.slice sp ts.length sc) sl' ts N ov kv wz) (fun _ kv _ => N - (intOf kv).toNat)
  case atStart => exact ⟨0, 0, by omega, by omega, rfl, rfl, HG.out⟩
  case round =>
    clear HG
    obtain ⟨k, n, hk, hn, rfl, rfl, hgb⟩ := hrel
    have HG := Lib.hid hgb
    rcases Nat.lt_or_ge k N with gk | gk
    · have hd : decide ((k : Int) < (N : Int)) = true := decide_eq_true (by omega)
      have i0 : (0 : Int) ≤ (k : Int) := by omega
      rcases (HLX.out _ hgb.all).2 with ⟨e, _⟩ | ⟨h0, gg, oo, cx, e, hcp, hrd⟩
      · rw [e] at HNN; have := HNN.out; simp at this; omega
      rw [← HNN.out] at e hcp h0
      injection e with e1 _ e3
      subst e1 e3
      have hcl := (hrd (by rw [← HNN.out]; exact h0)).2 k (by rw [← HNN.out]; exact gk)
      generalize xs.getD k 0 = t at hcl
      obtain ⟨a1, a2, a3, a4, a5, a6, a7⟩ := hgb.xc
      obtain ⟨y, hy⟩ : ∃ y, stateV B C ts t = y := ⟨_, rfl⟩
      have HSV := Lib.hid (fun W hb => HST.out W hb t)
      rw [hy] at HSV
      have ha := and_one y
      clear hrd
      by_cases hm : y % 2 = 0
      · have HI := Lib.hid (hgb.shut HXF.out (by omega) hn t (by rw [hy]; exact hm))
        rw [hm] at ha
        clear hm hgb hy
        go_wp2_with (first
          | (go_at_call 10; (with_reducible refine (HI.out).mono ?_); rintro e w3 ⟨⟨pr, rfl⟩, hg3⟩; have HG3 := Lib.hid hg3; obtain ⟨m0, m1, m2⟩ := hg3.bl.cells; clear hg3)
          | (go_at_call 13; (with_reducible refine (HSV.out _ HG3.out.all).mono ?_); rintro e w4 ⟨rfl, hb⟩; have HG4 := Lib.hid (HG3.out.below hb); clear hb))
        go_roundw
        case rel => exact ⟨k + 1, n, by omega, by omega, by go_num, rfl, HG4.out⟩
        case measure => simp [intOf]; omega
      · have HI := Lib.hid (hgb.opn HXF.out (by omega) hn t (by rw [hy]; exact hm))
        rw [show y % 2 = 1 by omega] at ha
        clear hm hgb hy
        go_wp2_with (first
          | (go_at_call 10; (with_reducible refine (HI.out).mono ?_); rintro e w3 ⟨⟨pr, rfl⟩, hg3⟩; have HG3 := Lib.hid hg3; obtain ⟨m0, m1, m2⟩ := hg3.bl.cells; clear hg3)
          | (go_at_call 13; (with_reducible refine (HSV.out _ HG3.out.all).mono ?_); rintro e w4 ⟨rfl, hb⟩; have HG4 := Lib.hid (HG3.out.below hb); clear hb))
        go_roundw
        case rel => exact ⟨k + 1, n + 1, by omega, by omega, by go_num, by go_num, HG4.out⟩
        case measure => simp [intOf]; omega
    · obtain rfl : k = N := by omega
      have hd : decide ((k : Int) < (k : Int)) = false := decide_eq_false (by omega)
      have HC : Hid (Calls Try.prog 11 #[.pointer (some ⟨b, 0, none⟩), .int .i64 0] wr fun e w' => e = .returned (.agg #[.int .i64 (n : Int), .int .i64 0, .int .i64 0, .int .i64 ((k : Int) - (n : Int)), .int .i64 0, .int .i64 0]) ∧ Below wr.heap.size wr w') := Lib.hid (counts_gate hgb.ng)
      clear hgb
      go_wp2_with (go_at_call 11; (with_reducible refine (HC.out).mono ?_); rintro e w5 ⟨rfl, hb⟩; have HB5 := Lib.hid (HG.out.all.trans (hb.mono HG.out.all.size)); clear hb)
      go_ret
      exact ⟨rfl, bAl HB5.out _⟩

theorem sieveGates_holds : Rows.SieveGatesSaid := sieveGates_of (fun p v m0 m1 m2 m3 m4 m5 sr ga pr mx sh ra B C sl ts v2 xs w _ _ _ _ _ _ _ _ _ _ _ _ _ _ ht hx => by
  obtain ⟨sp, sc, rfl⟩ := ht.slice
  obtain ⟨q, c, rfl⟩ := hx.slice
  by_cases hl : 64 < ts.length ∨ 40 < xs.length
  · exact gates_long ⟨p, v, ⟨m0, m1, m2, m3, m4, m5⟩, sr, ga, pr, mx, sh, ra⟩ B C sp q sc _ c ts w hl
  · by_cases hr : Right (cutG ⟨p, v, ⟨m0, m1, m2, m3, m4, m5⟩, sr, ga, pr, mx, sh, ra⟩) 1 0 ∧ chkV B C ts = 0
    · exact gates_in ⟨p, v, ⟨m0, m1, m2, m3, m4, m5⟩, sr, ga, pr, mx, sh, ra⟩ B C sp q sc _ c ts xs w ht hx rfl (fun k => hl (.inl k)) (fun k => hl (.inr k)) hr
    · exact gates_bad ⟨p, v, ⟨m0, m1, m2, m3, m4, m5⟩, sr, ga, pr, mx, sh, ra⟩ B C sp q sc _ c ts w ht (fun k => hl (.inl k)) (fun k => hl (.inr k)) hr)

end Go.Proofs.Ytpdfgdjomlogbab
