/- The reference's In: a number that came already, a late one. -/
import Derived.Test.YtnkblihdgfhcdaaSqRef3
namespace Go.Proofs.Ytnkblihdgfhcdaa
open Go.RowKit Go.Joins

def LongNo (r : RQ) (now : Int) : Prop := ∀ W, Calls Try.prog 38 #[.int .i64 now, .int .i64 r.when, .int .i64 r.reset] W fun e w' => e = .returned (.bool false) ∧ w' = W
def AheadIs (seq last D : Int) : Prop := ∀ W, Calls Try.prog 39 #[.int .i64 seq, .int .i64 last] W fun e w' => e = .returned (.int .i64 D) ∧ w' = W
theorem LongNo.go {r : RQ} {now : Int} (h : LongNo r now) (W : World) : Calls Try.prog 38 #[.int .i64 now, .int .i64 r.when, .int .i64 r.reset] W fun e w' => e = .returned (.bool false) ∧ w' = W := h W
theorem AheadIs.go {seq last D : Int} (h : AheadIs seq last D) (W : World) : Calls Try.prog 39 #[.int .i64 seq, .int .i64 last] W fun e w' => e = .returned (.int .i64 D) ∧ w' = W := h W
set_option maxRecDepth 20000 in
set_option maxHeartbeats 8000000 in
theorem rin_again (r : RQ) (p : Option Addr) (n c : Nat) (now seq : Int) (w : World) (hh : LA w (.slice p n c) r.had) (h0 : 0 ≤ seq) (h1 : seq ≤ 65535) (D : Int) (ha : r.any = false) (hl : LongNo r now) (hD : AheadIs seq r.last D) (hw : r.way = 0) (hl1 : 1 ≤ r.len ∧ r.len ≤ 64) (hr : -r.len < D ∧ D ≤ 0) (hm : -D ∈ r.had) (hn : n ≤ 1000) :
    Calls Try.prog 24 #[RV r (.slice p n c), .int .i64 now, .int .i64 seq] w (InPost w (r.took 1 now) 1 0) := by
  have HH := Lib.hid hh
  obtain ⟨p', c', e⟩ := hh.slice
  have hlen : r.had.length = n := by injection e with _ e _; exact e.symm
  have HX := Lib.hid (fun W (hW : LA W (.slice p n c) r.had) => has_ret p n c r.had (-D) W hW hlen hn)
  rw [decide_eq_true hm] at HX
  obtain ⟨way, len, reset, any, last, had, when, c0, c1, c2, c3, resets, lost⟩ := r
  simp only at ha hl hD hw hl1 hr HH HX
  subst ha
  subst hw
  have d1 : decide (seq < 0) = false := decide_eq_false (by omega)
  have d2 : decide (65535 < seq) = false := decide_eq_false (by omega)
  have e1 : wrap64 (-len) = -len := by unfold wrap64; omega
  have e2 : wrap64 (-D) = -D := by unfold wrap64; omega
  have d3 : decide (len ≤ D) = false := decide_eq_false (by omega)
  have d4 : decide (D ≤ -len) = false := decide_eq_false (by omega)
  have d5 : decide (D ≤ 0) = true := decide_eq_true (by omega)
  have HL := Lib.hid hl
  have HD := Lib.hid hD
  clear hh h0 h1 hl hD hl1 hr hm hlen hn e
  go_enter Try.func24, Try.ntmps24
  go_wp2_with (first
    | (go_at_call 38; (with_reducible refine (HL.out.go _).mono ?_); rintro e xl ⟨rfl, rfl⟩)
    | (go_at_call 39; (with_reducible refine (HD.out.go _).mono ?_); rintro e xa ⟨rfl, rfl⟩)
    | (go_at_call 40; (with_reducible refine (HX.out _ (HH.out.below (bAl (bAl (bRef w) _) _))).mono ?_); rintro e xh ⟨rfl, rfl⟩))
  refine bodyR rfl (w.heap.size + 1) _ _ _ rfl rfl rfl (heap_alloc2_new w _ _) rfl rfl ?_
  exact ⟨_, rfl, HH.out.below (bAl (bAl (bRef w) _) _), bAl (bAl (bRef w) _) _⟩
set_option maxRecDepth 20000 in
set_option maxHeartbeats 8000000 in
theorem rin_late (r : RQ) (p : Option Addr) (n c : Nat) (now seq : Int) (w : World) (hh : LA w (.slice p n c) r.had) (h0 : 0 ≤ seq) (h1 : seq ≤ 65535) (D : Int) (ha : r.any = false) (hl : LongNo r now) (hD : AheadIs seq r.last D) (hw : r.way = 0) (hl1 : 1 ≤ r.len ∧ r.len ≤ 64) (hr : -r.len < D ∧ D ≤ 0) (hm : -D ∉ r.had) (hn : n ≤ 500) (hn0 : 0 < n) :
    Calls Try.prog 24 #[RV r (.slice p n c), .int .i64 now, .int .i64 seq] w (InPost w (({ r with had := r.had ++ [-D] } : RQ).took 3 now) 3 0) := by
  have HH := Lib.hid hh
  obtain ⟨p', c', e⟩ := hh.slice
  have hlen : r.had.length = n := by injection e with _ e _; exact e.symm
  have HX := Lib.hid (fun W (hW : LA W (.slice p n c) r.had) => has_ret p n c r.had (-D) W hW hlen (by omega))
  rw [decide_eq_false hm] at HX
  have HLen := Lib.hid hlen
  have HN := Lib.hid (And.intro hn hn0)
  obtain ⟨way, len, reset, any, last, had, when, c0, c1, c2, c3, resets, lost⟩ := r
  simp only at ha hl hD hw hl1 hr HH HX HLen
  subst ha
  subst hw
  have d1 : decide (seq < 0) = false := decide_eq_false (by omega)
  have d2 : decide (65535 < seq) = false := decide_eq_false (by omega)
  have e1 : wrap64 (-len) = -len := by unfold wrap64; omega
  have e2 : wrap64 (-D) = -D := by unfold wrap64; omega
  have d3 : decide (len ≤ D) = false := decide_eq_false (by omega)
  have d4 : decide (D ≤ -len) = false := decide_eq_false (by omega)
  have d5 : decide (D ≤ 0) = true := decide_eq_true (by omega)
  have HL := Lib.hid hl
  have HD := Lib.hid hD
  clear hh h0 h1 hl hD hl1 hr hm hlen hn hn0 e
  have HB0 : Hid (RB (((w.alloc (.cells (RA ⟨0, len, reset, false, last, had, when, c0, c1, c2, c3, resets, lost⟩ (.slice p n c)) 39)).alloc (.cells (RA ⟨0, 0, 0, false, 0, [], 0, 0, 0, 0, 0, 0, 0⟩ (.slice none 0 0)) 39)).alloc (.cells #[] 3)) w.heap.size ⟨0, len, reset, false, last, had, when, c0, c1, c2, c3, resets, lost⟩ (.slice p n c)) := Lib.hid (((bAl (bAl (bRef (w.alloc _)) _) _).block w.heap.size (by simp)).trans (heap_alloc_one' w _))
  have HZ0 : Hid (RB (((w.alloc (.cells (RA ⟨0, len, reset, false, last, had, when, c0, c1, c2, c3, resets, lost⟩ (.slice p n c)) 39)).alloc (.cells (RA ⟨0, 0, 0, false, 0, [], 0, 0, 0, 0, 0, 0, 0⟩ (.slice none 0 0)) 39)).alloc (.cells #[] 3)) (w.heap.size + 1) ⟨0, 0, 0, false, 0, [], 0, 0, 0, 0, 0, 0, 0⟩ (.slice none 0 0)) := Lib.hid (((bAl (bRef ((w.alloc _).alloc _)) _).block (w.heap.size + 1) (by simp)).trans (heap_alloc2_new w _ _))
  go_enter Try.func24, Try.ntmps24
  go_upto_region 35 with (first
    | (go_at_call 38; (with_reducible refine (HL.out.go _).mono ?_); rintro e xl ⟨rfl, rfl⟩)
    | (go_at_call 39; (with_reducible refine (HD.out.go _).mono ?_); rintro e xa ⟨rfl, rfl⟩)
    | (go_at_call 40; (with_reducible refine (HX.out _ (HH.out.below (bAl (bAl (bRef w) _) _))).mono ?_); rintro e xh ⟨rfl, rfl⟩)
    | ((with_reducible refine at_app1 ?_); refine wpList_appI rfl _ _ rfl (w.heap.size + 2) _ _ [] had rfl rfl (OI.made (heap_alloc3_new w _ _ _) (by omega)) (HH.out.below (bAl (bAl (bAl (bRef w) _) _) _)) (by have := HLen.out; have := HN.out; omega) (by simp) (by have := HLen.out; have := HN.out; simp; omega) ?_; intro v3 w3 ho hb; rw [List.nil_append] at ho; have HO3 := Lib.hid ho; have HS3 : Hid (w.heap.size + 2 ≤ w3.heap.size) := Lib.hid (by have := hb.size; simp at this; omega); have HB3 := Lib.hid ((hb.block w.heap.size (by omega)).trans HB0.out); have HZ3 := Lib.hid ((hb.block (w.heap.size + 1) (by omega)).trans HZ0.out); have HBB3 := Lib.hid hb; obtain ⟨p3, c3', rfl⟩ := ho.form; clear ho hb)
    | ((with_reducible refine at_app2 ?_); refine wpList_appI rfl _ _ rfl (w.heap.size + 2) _ _ had [-D] rfl rfl (HO3.out.below (bAl (bRef w3) _)) (la_one _ _ (heap_alloc_one' w3 _)) (by simp) (by have := HS3.out; simp; omega) (by have := HLen.out; have := HN.out; simp; omega) ?_; intro v4 w4 ho hb; have HO4 := Lib.hid ho; have HB4 := Lib.hid ((hb.block w.heap.size (by omega)).trans (((bAl (bRef w3) _).block _ (lt_of_heap HB3.out)).trans HB3.out)); have HZ4 := Lib.hid ((hb.block (w.heap.size + 1) (by omega)).trans (((bAl (bRef w3) _).block _ (lt_of_heap HZ3.out)).trans HZ3.out)); have HBB4 := Lib.hid (HBB3.out.trans ((Below.mono (bAl (bRef w3) _) HS3.out).trans hb)); obtain ⟨p4, c4', rfl⟩ := ho.form; have k5 := cell_of_row _ _ 5 _ _ _ HB4.out; have f5 := frozen_of_row _ _ 5 _ _ HB4.out; clear ho hb))
  have b4 := HBB4.out
  obtain ⟨v, hv⟩ : ∃ v, Value.slice p4 (had.length + 1) c4' = v := ⟨_, rfl⟩
  have ho5 : OI (w.heap.size + 2) w4 v (had ++ [-D]) := by rw [← hv]; simpa using HO4.out
  rw [hv]
  have hB4 : RB w4 w.heap.size ⟨0, len, reset, false, last, had, when, c0, c1, c2, c3, resets, lost⟩ (.slice p n c) := HB4.out
  have hZ4 : RB w4 (w.heap.size + 1) ⟨0, 0, 0, false, 0, [], 0, 0, 0, 0, 0, 0, 0⟩ (.slice none 0 0) := HZ4.out
  have h5 := hB4.set5 v (had ++ [-D])
  have z5 := hZ4.other ⟨w.heap.size, 5, none⟩ (by show w.heap.size + 1 ≠ w.heap.size; omega) v
  have b5 : Below w.heap.size w (w4.setCell ⟨w.heap.size, 5, none⟩ v) := bSet ((bAl (bAl (bAl (bRef w) _) _) _).trans (b4.mono (by omega))) _ (Nat.le_refl _) _
  have la5 : OI (w.heap.size + 2) (w4.setCell ⟨w.heap.size, 5, none⟩ v) v (had ++ [-D]) := ho5.set (by omega)
  obtain ⟨p5, n5, c5, rfl⟩ : ∃ p n c, v = .slice p n c := ⟨_, _, _, hv.symm⟩
  generalize w4.setCell ⟨w.heap.size, 5, none⟩ (.slice p5 n5 c5) = W5 at *
  have HT := Lib.hid (TailS.mk h5 z5 b5 la5)
  clear hB4 hZ4 h5 z5 b5 la5 ho5 hv b4 HB4 HZ4 HBB4 HO4 HB3 HZ3 HBB3 HO3 HB0 HZ0 k5 f5 HS3
  obtain ⟨⟨q0, q1, q2, q3, q4, q5, q6, q7, q8, q9, q10, q11, q12⟩, g3, g4, g5, g6, g7, g8, g9, g10, g11, g12⟩ := HT.out.box.cells
  go_wp2_with (first
    | ((with_reducible refine at_loadR ?_); refine wpList_loadR rfl _ rfl w.heap.size _ _ rfl (((HT.out.box.set10 _).set6 _).set3 _) ?_)
    | ((with_reducible refine at_storeR ?_); refine wpList_storeR rfl _ _ rfl (w.heap.size + 1) _ _ _ _ _ _ rfl rfl (((HT.out.res.other _ (by show w.heap.size + 1 ≠ w.heap.size; omega) _).other _ (by show w.heap.size + 1 ≠ w.heap.size; omega) _).other _ (by show w.heap.size + 1 ≠ w.heap.size; omega) _) ?_))
  refine bodyR rfl (w.heap.size + 1) _ _ _ rfl rfl rfl (setRow_heap _ _ _ _ _ _ (((HT.out.res.other _ (by show w.heap.size + 1 ≠ w.heap.size; omega) _).other _ (by show w.heap.size + 1 ≠ w.heap.size; omega) _).other _ (by show w.heap.size + 1 ≠ w.heap.size; omega) _)) rfl rfl ?_
  exact ⟨_, rfl, ((((HT.out.la.set (by omega)).set (by omega)).set (by omega)).row _ (by omega)).la, below_setRow (bSet (bSet (bSet HT.out.bel _ (Nat.le_refl _) _) _ (Nat.le_refl _) _) _ (Nat.le_refl _) _) (by omega) _⟩

end Go.Proofs.Ytnkblihdgfhcdaa
