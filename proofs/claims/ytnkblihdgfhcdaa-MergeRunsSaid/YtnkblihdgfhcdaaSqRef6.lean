/- The reference's In: behind long silence. -/
import Derived.Test.YtnkblihdgfhcdaaSqRef5
namespace Go.Proofs.Ytnkblihdgfhcdaa
open Go.RowKit Go.Joins

def LongYes (r : RQ) (now : Int) : Prop := ∀ W, Calls Try.prog 38 #[.int .i64 now, .int .i64 r.when, .int .i64 r.reset] W fun e w' => e = .returned (.bool true) ∧ w' = W
theorem LongYes.go {r : RQ} {now : Int} (h : LongYes r now) (W : World) : Calls Try.prog 38 #[.int .i64 now, .int .i64 r.when, .int .i64 r.reset] W fun e w' => e = .returned (.bool true) ∧ w' = W := h W
set_option maxRecDepth 20000 in
set_option maxHeartbeats 8000000 in
theorem rin_silent1 (r : RQ) (p : Option Addr) (n c : Nat) (now seq : Int) (w : World) (h0 : 0 ≤ seq) (h1 : seq ≤ 65535) (ha : r.any = false) (hl : LongYes r now) (hw : r.way = 1) :
    Calls Try.prog 24 #[RV r (.slice p n c), .int .i64 now, .int .i64 seq] w (InPost w (({ r.anew with last := seq } : RQ).took 0 now) 0 0) := by
  obtain ⟨way, len, reset, any, last, had, when, c0, c1, c2, c3, resets, lost⟩ := r
  simp only at ha hl hw
  subst ha
  subst hw
  have HAn := Lib.hid (fun W => ranew_ret ⟨1, len, reset, false, last, had, when, c0, c1, c2, c3, resets, lost⟩ p n c W)
  have d1 : decide (seq < 0) = false := decide_eq_false (by omega)
  have d2 : decide (65535 < seq) = false := decide_eq_false (by omega)
  have HL := Lib.hid hl
  have HB0 : Hid (RB ((w.alloc (.cells (RA ⟨1, len, reset, false, last, had, when, c0, c1, c2, c3, resets, lost⟩ (.slice p n c)) 39)).alloc (.cells (RA ⟨0, 0, 0, false, 0, [], 0, 0, 0, 0, 0, 0, 0⟩ (.slice none 0 0)) 39)) w.heap.size ⟨1, len, reset, false, last, had, when, c0, c1, c2, c3, resets, lost⟩ (.slice p n c)) := Lib.hid (((bAl (bRef (w.alloc _)) _).block w.heap.size (by simp)).trans (heap_alloc_one' w _))
  have HZ0 : Hid (RB ((w.alloc (.cells (RA ⟨1, len, reset, false, last, had, when, c0, c1, c2, c3, resets, lost⟩ (.slice p n c)) 39)).alloc (.cells (RA ⟨0, 0, 0, false, 0, [], 0, 0, 0, 0, 0, 0, 0⟩ (.slice none 0 0)) 39)) (w.heap.size + 1) ⟨0, 0, 0, false, 0, [], 0, 0, 0, 0, 0, 0, 0⟩ (.slice none 0 0)) := Lib.hid (heap_alloc2_new w _ _)
  clear h0 h1 hl
  go_enter Try.func24, Try.ntmps24
  go_upto_region 5 with (first
    | (go_at_call 38; (with_reducible refine (HL.out.go _).mono ?_); rintro e xl ⟨rfl, rfl⟩)
    | (go_at_call 23; (with_reducible refine (HAn.out _).mono ?_); rintro e x1 ⟨rfl, hb⟩; have HB1 := Lib.hid (HB0.out.below hb); have HZ1 := Lib.hid (HZ0.out.below hb); have HBel1 := Lib.hid (bTr (bAl (bAl (bRef w) _) _) hb); clear hb)
    | ((with_reducible refine at_storeR ?_); refine wpList_storeR rfl _ _ rfl w.heap.size (RQ.anew ⟨1, len, reset, false, last, had, when, c0, c1, c2, c3, resets, lost⟩) _ none 0 0 _ rfl rfl HB1.out ?_))
  have h1 : RB (x1.setRow w.heap.size (RA (RQ.anew ⟨1, len, reset, false, last, had, when, c0, c1, c2, c3, resets, lost⟩) (.slice none 0 0))) w.heap.size ⟨1, len, reset, true, last, [], when, c0, c1, c2, c3, wrap64 (resets + 1), lost⟩ (.slice none 0 0) := setRow_heap _ _ _ _ _ _ HB1.out
  have z1 : RB (x1.setRow w.heap.size (RA (RQ.anew ⟨1, len, reset, false, last, had, when, c0, c1, c2, c3, resets, lost⟩) (.slice none 0 0))) (w.heap.size + 1) ⟨0, 0, 0, false, 0, [], 0, 0, 0, 0, 0, 0, 0⟩ (.slice none 0 0) := (setRow_other _ _ _ _ (by omega)).trans HZ1.out
  have b1 := below_setRow HBel1.out (Nat.le_refl _) (RA (RQ.anew ⟨1, len, reset, false, last, had, when, c0, c1, c2, c3, resets, lost⟩) (.slice none 0 0))
  generalize x1.setRow w.heap.size (RA (RQ.anew ⟨1, len, reset, false, last, had, when, c0, c1, c2, c3, resets, lost⟩) (.slice none 0 0)) = W1 at *
  clear HB1 HZ1 HBel1 HB0 HZ0 HAn HL
  have HT := Lib.hid (TailS.mk h1 z1 b1 (⟨rfl, .inl ⟨rfl, rfl⟩⟩ : OI _ _ _ _))
  clear h1 z1 b1
  obtain ⟨⟨q0, q1, q2, q3, q4, q5, q6, q7, q8, q9, q10, q11, q12⟩, g3, g4, g5, g6, g7, g8, g9, g10, g11, g12⟩ := HT.out.box.cells
  go_wp2_with (first
    | ((with_reducible refine at_loadR ?_); refine wpList_loadR rfl _ rfl w.heap.size _ _ rfl ((((HT.out.box.set4 _).set7 _).set6 _).set3 _) ?_)
    | ((with_reducible refine at_storeR ?_); refine wpList_storeR rfl _ _ rfl (w.heap.size + 1) _ _ _ _ _ _ rfl rfl ((((HT.out.res.other _ (by show w.heap.size + 1 ≠ w.heap.size; omega) _).other _ (by show w.heap.size + 1 ≠ w.heap.size; omega) _).other _ (by show w.heap.size + 1 ≠ w.heap.size; omega) _).other _ (by show w.heap.size + 1 ≠ w.heap.size; omega) _) ?_))
  refine bodyR rfl (w.heap.size + 1) _ _ _ rfl rfl rfl (setRow_heap _ _ _ _ _ _ ((((HT.out.res.other _ (by show w.heap.size + 1 ≠ w.heap.size; omega) _).other _ (by show w.heap.size + 1 ≠ w.heap.size; omega) _).other _ (by show w.heap.size + 1 ≠ w.heap.size; omega) _).other _ (by show w.heap.size + 1 ≠ w.heap.size; omega) _)) rfl rfl ?_
  exact ⟨_, rfl, LA.nil _, below_setRow (bSet (bSet (bSet (bSet HT.out.bel _ (Nat.le_refl _) _) _ (Nat.le_refl _) _) _ (Nat.le_refl _) _) _ (Nat.le_refl _) _) (by omega) _⟩
set_option maxRecDepth 20000 in
set_option maxHeartbeats 8000000 in
theorem rin_silent0 (r : RQ) (p : Option Addr) (n c : Nat) (now seq : Int) (w : World) (h0 : 0 ≤ seq) (h1 : seq ≤ 65535) (ha : r.any = false) (hl : LongYes r now) (hw : r.way = 0) :
    Calls Try.prog 24 #[RV r (.slice p n c), .int .i64 now, .int .i64 seq] w (InPost w (({ r.anew with last := seq, had := [0] } : RQ).took 0 now) 0 0) := by
  obtain ⟨way, len, reset, any, last, had, when, c0, c1, c2, c3, resets, lost⟩ := r
  simp only at ha hl hw
  subst ha
  subst hw
  have HAn := Lib.hid (fun W => ranew_ret ⟨0, len, reset, false, last, had, when, c0, c1, c2, c3, resets, lost⟩ p n c W)
  have d1 : decide (seq < 0) = false := decide_eq_false (by omega)
  have d2 : decide (65535 < seq) = false := decide_eq_false (by omega)
  have HL := Lib.hid hl
  have HB0 : Hid (RB ((w.alloc (.cells (RA ⟨0, len, reset, false, last, had, when, c0, c1, c2, c3, resets, lost⟩ (.slice p n c)) 39)).alloc (.cells (RA ⟨0, 0, 0, false, 0, [], 0, 0, 0, 0, 0, 0, 0⟩ (.slice none 0 0)) 39)) w.heap.size ⟨0, len, reset, false, last, had, when, c0, c1, c2, c3, resets, lost⟩ (.slice p n c)) := Lib.hid (((bAl (bRef (w.alloc _)) _).block w.heap.size (by simp)).trans (heap_alloc_one' w _))
  have HZ0 : Hid (RB ((w.alloc (.cells (RA ⟨0, len, reset, false, last, had, when, c0, c1, c2, c3, resets, lost⟩ (.slice p n c)) 39)).alloc (.cells (RA ⟨0, 0, 0, false, 0, [], 0, 0, 0, 0, 0, 0, 0⟩ (.slice none 0 0)) 39)) (w.heap.size + 1) ⟨0, 0, 0, false, 0, [], 0, 0, 0, 0, 0, 0, 0⟩ (.slice none 0 0)) := Lib.hid (heap_alloc2_new w _ _)
  clear h0 h1 hl
  go_enter Try.func24, Try.ntmps24
  go_upto_region 5 with (first
    | (go_at_call 38; (with_reducible refine (HL.out.go _).mono ?_); rintro e xl ⟨rfl, rfl⟩)
    | (go_at_call 23; (with_reducible refine (HAn.out _).mono ?_); rintro e x1 ⟨rfl, hb⟩; have HB1 := Lib.hid (HB0.out.below hb); have HZ1 := Lib.hid (HZ0.out.below hb); have HBel1 := Lib.hid (bTr (bAl (bAl (bRef w) _) _) hb); clear hb)
    | ((with_reducible refine at_storeR ?_); refine wpList_storeR rfl _ _ rfl w.heap.size (RQ.anew ⟨0, len, reset, false, last, had, when, c0, c1, c2, c3, resets, lost⟩) _ none 0 0 _ rfl rfl HB1.out ?_))
  have h1 : RB (x1.setRow w.heap.size (RA (RQ.anew ⟨0, len, reset, false, last, had, when, c0, c1, c2, c3, resets, lost⟩) (.slice none 0 0))) w.heap.size ⟨0, len, reset, true, last, [], when, c0, c1, c2, c3, wrap64 (resets + 1), lost⟩ (.slice none 0 0) := setRow_heap _ _ _ _ _ _ HB1.out
  have z1 : RB (x1.setRow w.heap.size (RA (RQ.anew ⟨0, len, reset, false, last, had, when, c0, c1, c2, c3, resets, lost⟩) (.slice none 0 0))) (w.heap.size + 1) ⟨0, 0, 0, false, 0, [], 0, 0, 0, 0, 0, 0, 0⟩ (.slice none 0 0) := (setRow_other _ _ _ _ (by omega)).trans HZ1.out
  have b1 := below_setRow HBel1.out (Nat.le_refl _) (RA (RQ.anew ⟨0, len, reset, false, last, had, when, c0, c1, c2, c3, resets, lost⟩) (.slice none 0 0))
  generalize x1.setRow w.heap.size (RA (RQ.anew ⟨0, len, reset, false, last, had, when, c0, c1, c2, c3, resets, lost⟩) (.slice none 0 0)) = W1 at *
  clear HB1 HZ1 HBel1 HB0 HZ0 HAn HL
  have h4 := h1.set4 seq
  have z4 := z1.other ⟨w.heap.size, 4, none⟩ (by show w.heap.size + 1 ≠ w.heap.size; omega) (.int .i64 seq)
  have b4 := bSet b1 ⟨w.heap.size, 4, none⟩ (Nat.le_refl _) (.int .i64 seq)
  have H4 := Lib.hid h4
  have Z4 := Lib.hid z4
  have B4 := Lib.hid b4
  obtain ⟨⟨q0, q1, q2, q3, q4, q5, q6, q7, q8, q9, q10, q11, q12⟩, g3, g4, g5, g6, g7, g8, g9, g10, g11, g12⟩ := h1.cells
  clear h1 z1 b1 h4 z4 b4
  go_upto_region 34 with fail
  generalize W1.setCell ⟨w.heap.size, 4, none⟩ (.int .i64 seq) = W4 at *
  clear q0 q1 q2 q3 q4 q5 q6 q7 q8 q9 q10 q11 q12 g3 g4 g5 g6 g7 g8 g9 g10 g11 g12
  have h5 : RB (W4.alloc (.cells #[.int .i64 0] 3)) w.heap.size ⟨0, len, reset, true, seq, [], when, c0, c1, c2, c3, wrap64 (resets + 1), lost⟩ (.slice none 0 0) := H4.out.below (bAl (bRef W4) _)
  have z5 : RB (W4.alloc (.cells #[.int .i64 0] 3)) (w.heap.size + 1) _ (.slice none 0 0) := Z4.out.below (bAl (bRef W4) _)
  have b5 := bAl B4.out (.cells #[.int .i64 0] 3)
  have hsz : w.heap.size + 2 ≤ W4.heap.size := by have := Z4.out.lt; omega
  have o5 : OI (w.heap.size + 2) (W4.alloc (.cells #[.int .i64 0] 3)) (.slice (some ⟨W4.heap.size, 0, none⟩) 1 1) [0] := OI.one (heap_alloc_one' W4 _) hsz
  have HT0 := Lib.hid (TailS.mk (h5.set5 (.slice (some ⟨W4.heap.size, 0, none⟩) 1 1) [0]) (z5.other ⟨w.heap.size, 5, none⟩ (by show w.heap.size + 1 ≠ w.heap.size; omega) _) (bSet b5 ⟨w.heap.size, 5, none⟩ (Nat.le_refl _) _) (o5.set (by omega)))
  have k5 := cell_of_row _ _ 5 _ _ _ h5
  have f5 := frozen_of_row _ _ 5 _ _ h5
  clear h5 z5 b5 o5 hsz H4 Z4 B4
  go_upto_region 35 with fail
  generalize (W4.alloc (.cells #[.int .i64 0] 3)).setCell ⟨w.heap.size, 5, none⟩ (.slice (some ⟨W4.heap.size, 0, none⟩) 1 1) = W5 at *
  have HT := HT0
  clear HT0 k5 f5
  obtain ⟨⟨q0, q1, q2, q3, q4, q5, q6, q7, q8, q9, q10, q11, q12⟩, g3, g4, g5, g6, g7, g8, g9, g10, g11, g12⟩ := HT.out.box.cells
  go_wp2_with (first
    | ((with_reducible refine at_loadR ?_); refine wpList_loadR rfl _ rfl w.heap.size _ _ rfl (((HT.out.box.set7 _).set6 _).set3 _) ?_)
    | ((with_reducible refine at_storeR ?_); refine wpList_storeR rfl _ _ rfl (w.heap.size + 1) _ _ _ _ _ _ rfl rfl (((HT.out.res.other _ (by show w.heap.size + 1 ≠ w.heap.size; omega) _).other _ (by show w.heap.size + 1 ≠ w.heap.size; omega) _).other _ (by show w.heap.size + 1 ≠ w.heap.size; omega) _) ?_))
  refine bodyR rfl (w.heap.size + 1) _ _ _ rfl rfl rfl (setRow_heap _ _ _ _ _ _ (((HT.out.res.other _ (by show w.heap.size + 1 ≠ w.heap.size; omega) _).other _ (by show w.heap.size + 1 ≠ w.heap.size; omega) _).other _ (by show w.heap.size + 1 ≠ w.heap.size; omega) _)) rfl rfl ?_
  exact ⟨_, rfl, ((((HT.out.la.set (by omega)).set (by omega)).set (by omega)).row _ (by omega)).la, below_setRow (bSet (bSet (bSet HT.out.bel _ (Nat.le_refl _) _) _ (Nat.le_refl _) _) _ (Nat.le_refl _) _) (by omega) _⟩

end Go.Proofs.Ytnkblihdgfhcdaa
