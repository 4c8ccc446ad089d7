/- For every stream, all others, every port and address SieveForged answers true: a stream that comes in at one port alone is never found at another one. No condition. -/
import Derived.Test.YtpdfgdjomlogbabFSieveForged
import Derived.Test.YtpdfgdjomlogbabSvOne
namespace Go.Proofs.Ytpdfgdjomlogbab
open Go.RowKit Go.Joins

theorem forged_out (x : Sm) (q : Option Addr) (m d : Nat) (port : Int) (sm : M6) (w : World) (h : 30 < m ∨ x.port < 0 ∨ port = x.port) :
    Calls Try.prog 4 #[.agg (SA x), .slice q m d, .int .i64 port, MV sm] w fun e w' => e = .returned (.bool true) ∧ Below w.heap.size w w' := by
  have HH := Lib.hid head_ret
  have hb0 := bAl (bAl (bRef w) (.cells (SA x) 28)) (.cells (MC sm) 26)
  have HB0 := Lib.hid hb0
  have hx0 := ((bAl (bRef (w.alloc (.cells (SA x) 28))) (.cells (MC sm) 26)).block w.heap.size (by simp)).trans (heap_alloc_one w (.cells (SA x) 28))
  have HX0 := Lib.hid hx0
  clear hb0 hx0
  have fin : ∀ (dd1 : decide ((30 : Int) < (m : Int)) = true ∨ (decide ((30 : Int) < (m : Int)) = false ∧ (decide (x.port < 0) = true ∨ (decide (x.port < 0) = false ∧ (port == x.port) = true)))), Calls Try.prog 4 #[.agg (SA x), .slice q m d, .int .i64 port, MV sm] w fun e w' => e = .returned (.bool true) ∧ Below w.heap.size w w' := by
    intro dd
    rcases dd with d1 | ⟨d1, d2 | ⟨d2, d3⟩⟩
    · clear h
      go_enter Try.func4, Try.ntmps4
      go_wp2_with (go_at_call 7; (with_reducible refine (HH.out _).mono ?_); rintro e v1 ⟨rfl, hb⟩; have HB1 := Lib.hid (bTr HB0.out hb); have c0 : v1.cell? ⟨w.heap.size, 0, none⟩ = some (.int .i64 x.port) := cell_of_row _ _ 0 _ _ _ ((hb.block _ (lt_of_heap HX0.out)).trans HX0.out); clear hb)
      go_ret
      exact ⟨rfl, HB1.out⟩
    · clear h
      go_enter Try.func4, Try.ntmps4
      go_wp2_with (go_at_call 7; (with_reducible refine (HH.out _).mono ?_); rintro e v1 ⟨rfl, hb⟩; have HB1 := Lib.hid (bTr HB0.out hb); have c0 : v1.cell? ⟨w.heap.size, 0, none⟩ = some (.int .i64 x.port) := cell_of_row _ _ 0 _ _ _ ((hb.block _ (lt_of_heap HX0.out)).trans HX0.out); clear hb)
      go_ret
      exact ⟨rfl, HB1.out⟩
    · clear h
      go_enter Try.func4, Try.ntmps4
      go_wp2_with (go_at_call 7; (with_reducible refine (HH.out _).mono ?_); rintro e v1 ⟨rfl, hb⟩; have HB1 := Lib.hid (bTr HB0.out hb); have c0 : v1.cell? ⟨w.heap.size, 0, none⟩ = some (.int .i64 x.port) := cell_of_row _ _ 0 _ _ _ ((hb.block _ (lt_of_heap HX0.out)).trans HX0.out); clear hb)
      go_ret
      exact ⟨rfl, HB1.out⟩
  by_cases h1 : 30 < m
  · exact fin (.inl (decide_eq_true (by omega)))
  · by_cases h2 : x.port < 0
    · exact fin (.inr ⟨decide_eq_false (by omega), .inl (decide_eq_true h2)⟩)
    · exact fin (.inr ⟨decide_eq_false (by omega), .inr ⟨decide_eq_false h2, by rw [beq_iff_eq]; omega⟩⟩)
/-- The stream as the law makes it. -/
def cut (x : Sm) : Sm := { x with src := false, gate := -1, rate := -1 }
theorem cut_row {v1 : World} {B : Nat} {x : Sm} (h : v1.heap[B]? = some (.cells (SA x) 28 (0, 0))) : (((v1.setCell ⟨B, 9, none⟩ (.int .i64 (-1))).setCell ⟨B, 13, none⟩ (.int .i64 (-1))).setCell ⟨B, 8, none⟩ (.bool false)).heap[B]? = some (.cells (SA (cut x)) 28 (0, 0)) := by
  have h0 : (v1.setCell ⟨B, 9, none⟩ (.int .i64 (-1))).heap[B]? = some (.cells (SA { x with gate := -1 }) 28 (0, 0)) := heap_setCell_same v1 _ 9 _ _ _ h
  have h1 : ((v1.setCell ⟨B, 9, none⟩ (.int .i64 (-1))).setCell ⟨B, 13, none⟩ (.int .i64 (-1))).heap[B]? = some (.cells (SA { x with gate := -1, rate := -1 }) 28 (0, 0)) := heap_setCell_same _ _ 13 _ _ _ h0
  exact heap_setCell_same _ _ 8 _ _ _ h1
theorem cut_off {v1 : World} {B j : Nat} (hj : j ≠ B) : (((v1.setCell ⟨B, 9, none⟩ (.int .i64 (-1))).setCell ⟨B, 13, none⟩ (.int .i64 (-1))).setCell ⟨B, 8, none⟩ (.bool false)).heap[j]? = v1.heap[j]? := by
  rw [heap_setCell_other _ _ _ _ hj, heap_setCell_other _ _ _ _ hj, heap_setCell_other _ _ _ _ hj]
/-- The sieve, and the law's two boxes. -/
structure FS (w0 : World) (B : Nat) (x' : Sm) (sm : M6) (b g cap : Nat) (L : List Fl) (oth : Int) (w W : World) : Prop where
  ns : NS w0 b (.slice (some ⟨g, 0, none⟩) 1 cap) L oth W
  hx : w0.heap[B]? = some (.cells (SA x') 28 (0, 0))
  hm : w0.heap[B + 1]? = some (.cells (MC sm) 26 (0, 0))
  bel : Below w.heap.size w w0
section
variable {w0 w W : World} {B b g cap : Nat} {x' : Sm} {sm : M6} {L : List Fl} {oth : Int}
theorem FS.bx (h : FS w0 B x' sm b g cap L oth w W) : W.heap[B]? = some (.cells (SA x') 28 (0, 0)) := (h.ns.bel.block _ (lt_of_heap h.hx)).trans h.hx
theorem FS.bm (h : FS w0 B x' sm b g cap L oth w W) : W.heap[B + 1]? = some (.cells (MC sm) 26 (0, 0)) := (h.ns.bel.block _ (lt_of_heap h.hm)).trans h.hm
theorem FS.all (h : FS w0 B x' sm b g cap L oth w W) : Below w.heap.size w W := h.bel.trans (h.ns.bel.mono h.bel.size)
theorem FS.xc (h : FS w0 B x' sm b g cap L oth w W) : W.cell? ⟨B, 0, none⟩ = some (.int .i64 x'.port) ∧ W.cell? ⟨B, 1, none⟩ = some (.int .i64 x'.vid) ∧ W.cell? ⟨B, 2, none⟩ = some (.int .u8 x'.mac.x0) ∧ W.cell? ⟨B, 3, none⟩ = some (.int .u8 x'.mac.x1) ∧ W.cell? ⟨B, 4, none⟩ = some (.int .u8 x'.mac.x2) ∧ W.cell? ⟨B, 5, none⟩ = some (.int .u8 x'.mac.x3) ∧ W.cell? ⟨B, 6, none⟩ = some (.int .u8 x'.mac.x4) ∧ W.cell? ⟨B, 7, none⟩ = some (.int .u8 x'.mac.x5) :=
  ⟨cell_of_row _ _ 0 _ _ _ h.bx, cell_of_row _ _ 1 _ _ _ h.bx, cell_of_row _ _ 2 _ _ _ h.bx, cell_of_row _ _ 3 _ _ _ h.bx, cell_of_row _ _ 4 _ _ _ h.bx, cell_of_row _ _ 5 _ _ _ h.bx, cell_of_row _ _ 6 _ _ _ h.bx, cell_of_row _ _ 7 _ _ _ h.bx⟩
theorem FS.mc (h : FS w0 B x' sm b g cap L oth w W) : W.cell? ⟨B + 1, 0, none⟩ = some (.int .u8 sm.x0) ∧ W.cell? ⟨B + 1, 1, none⟩ = some (.int .u8 sm.x1) ∧ W.cell? ⟨B + 1, 2, none⟩ = some (.int .u8 sm.x2) ∧ W.cell? ⟨B + 1, 3, none⟩ = some (.int .u8 sm.x3) ∧ W.cell? ⟨B + 1, 4, none⟩ = some (.int .u8 sm.x4) ∧ W.cell? ⟨B + 1, 5, none⟩ = some (.int .u8 sm.x5) :=
  ⟨cell_of_row _ _ 0 _ _ _ h.bm, cell_of_row _ _ 1 _ _ _ h.bm, cell_of_row _ _ 2 _ _ _ h.bm, cell_of_row _ _ 3 _ _ _ h.bm, cell_of_row _ _ 4 _ _ _ h.bm, cell_of_row _ _ 5 _ _ _ h.bm⟩
end
theorem cut_new {w v1 : World} {x : Sm} {sm : M6} (hx : v1.heap[w.heap.size]? = some (.cells (SA x) 28 (0, 0))) (hm : v1.heap[w.heap.size + 1]? = some (.cells (MC sm) 26 (0, 0))) (hb : Below w.heap.size w v1) (hr : Right (cut x) 0 0) :
    Calls Try.prog 8 #[.slice (some ⟨v1.heap.size, 0, none⟩) 1 1, .slice none 0 0, .slice none 0 0, .int .i64 0] ((((v1.setCell ⟨w.heap.size, 9, none⟩ (.int .i64 (-1))).setCell ⟨w.heap.size, 13, none⟩ (.int .i64 (-1))).setCell ⟨w.heap.size, 8, none⟩ (.bool false)).alloc (.cells (SA (cut x)) 28)) fun e w' =>
      ∃ g cap, e = .returned (.tuple #[.pointer (some ⟨v1.heap.size + 1, 0, none⟩), .int .i64 0]) ∧ FS ((((v1.setCell ⟨w.heap.size, 9, none⟩ (.int .i64 (-1))).setCell ⟨w.heap.size, 13, none⟩ (.int .i64 (-1))).setCell ⟨w.heap.size, 8, none⟩ (.bool false)).alloc (.cells (SA (cut x)) 28)) w.heap.size (cut x) sm (v1.heap.size + 1) g cap [fl0 (cut x)] 0 w w' ∧ 1 ≤ cap := by
  have hsz : (((v1.setCell ⟨w.heap.size, 9, none⟩ (.int .i64 (-1))).setCell ⟨w.heap.size, 13, none⟩ (.int .i64 (-1))).setCell ⟨w.heap.size, 8, none⟩ (.bool false)).heap.size = v1.heap.size := by simp
  have h := new_yes (((v1.setCell ⟨w.heap.size, 9, none⟩ (.int .i64 (-1))).setCell ⟨w.heap.size, 13, none⟩ (.int .i64 (-1))).setCell ⟨w.heap.size, 8, none⟩ (.bool false)) hr
  rw [hsz] at h
  refine h.mono fun e w' hh => ?_
  obtain ⟨g, cap, he, hns, hc⟩ := hh
  have hl := lt_of_heap hx
  have hl2 := lt_of_heap hm
  refine ⟨g, cap, he, ⟨hns, ?_, ?_, ?_⟩, hc⟩
  · exact (heap_alloc_old _ _ (by rw [hsz]; exact hl)).trans (cut_row hx)
  · exact (heap_alloc_old _ _ (by rw [hsz]; exact hl2)).trans ((cut_off (by omega)).trans hm)
  · refine hb.trans ⟨rfl, rfl, rfl, by simp, fun j hj => ?_⟩
    exact (heap_alloc_old _ _ (by rw [hsz]; omega)).trans (cut_off (by omega))
theorem cut_bad {w v1 : World} {x : Sm} (hx : v1.heap[w.heap.size]? = some (.cells (SA x) 28 (0, 0))) (hb : Below w.heap.size w v1) (hr : ¬ Right (cut x) 0 0) :
    Calls Try.prog 8 #[.slice (some ⟨v1.heap.size, 0, none⟩) 1 1, .slice none 0 0, .slice none 0 0, .int .i64 0] ((((v1.setCell ⟨w.heap.size, 9, none⟩ (.int .i64 (-1))).setCell ⟨w.heap.size, 13, none⟩ (.int .i64 (-1))).setCell ⟨w.heap.size, 8, none⟩ (.bool false)).alloc (.cells (SA (cut x)) 28)) fun e w' => e = .returned (.tuple #[.pointer none, .int .i64 1]) ∧ Below w.heap.size w w' := by
  have hsz : (((v1.setCell ⟨w.heap.size, 9, none⟩ (.int .i64 (-1))).setCell ⟨w.heap.size, 13, none⟩ (.int .i64 (-1))).setCell ⟨w.heap.size, 8, none⟩ (.bool false)).heap.size = v1.heap.size := by simp
  have h := new_no (((v1.setCell ⟨w.heap.size, 9, none⟩ (.int .i64 (-1))).setCell ⟨w.heap.size, 13, none⟩ (.int .i64 (-1))).setCell ⟨w.heap.size, 8, none⟩ (.bool false)) hr
  rw [hsz] at h
  refine h.mono fun e w' hh => ⟨hh.1, ?_⟩
  have hl := lt_of_heap hx
  have h1 : Below w.heap.size v1 (((v1.setCell ⟨w.heap.size, 9, none⟩ (.int .i64 (-1))).setCell ⟨w.heap.size, 13, none⟩ (.int .i64 (-1))).setCell ⟨w.heap.size, 8, none⟩ (.bool false)) := ⟨rfl, rfl, rfl, by simp, fun j hj => cut_off (by omega)⟩
  have h2 : Below w.heap.size (((v1.setCell ⟨w.heap.size, 9, none⟩ (.int .i64 (-1))).setCell ⟨w.heap.size, 13, none⟩ (.int .i64 (-1))).setCell ⟨w.heap.size, 8, none⟩ (.bool false)) w' := hh.2.mono (by omega)
  exact hb.trans (h1.trans h2)
set_option maxHeartbeats 4000000 in
theorem forged_in (x : Sm) (q : Option Addr) (m d : Nat) (port : Int) (sm : M6) (w : World) (hm : ¬ 30 < m) (hp : ¬ x.port < 0) (hne : ¬ port = x.port) :
    Calls Try.prog 4 #[.agg (SA x), .slice q m d, .int .i64 port, MV sm] w fun e w' => e = .returned (.bool true) ∧ Below w.heap.size w w' := by
  have HH := Lib.hid head_ret
  have d1 : decide ((30 : Int) < (m : Int)) = false := decide_eq_false (by omega)
  have d2 : decide (x.port < 0) = false := decide_eq_false hp
  have d3 : (port == x.port) = false := by simpa using hne
  have HB0 := Lib.hid (bAl (bAl (bRef w) (.cells (SA x) 28)) (.cells (MC sm) 26))
  have HX0 := Lib.hid (((bAl (bRef (w.alloc (.cells (SA x) 28))) (.cells (MC sm) 26)).block w.heap.size (by simp)).trans (heap_alloc_one w (.cells (SA x) 28)))
  have hmc := heap_alloc_one (w.alloc (.cells (SA x) 28)) (.cells (MC sm) 26)
  rw [show (w.alloc (.cells (SA x) 28)).heap.size = w.heap.size + 1 by simp] at hmc
  have HM0 := Lib.hid hmc
  have HF1 : Hid (findI [fl0 (cut x)] port (cut x).vid (cut x).mac sm = -1) := Lib.hid (find_no _ _ _ _ _ (fun h => by rcases h.2.1 with k | k <;> (have : (cut x).port = x.port := rfl; omega)))
  have HF2 : Hid (findI [fl0 (cut x)] (cut x).port (cut x).vid (cut x).mac sm = ((0 : Nat) : Int)) := Lib.hid (find_one _ _ _ _ _ ⟨rfl, .inr rfl, rfl⟩)
  have HGT : Hid ((fl0 (cut x)).st.gate = -1 ∧ (fl0 (cut x)).st.rate = -1) := Lib.hid ⟨rfl, rfl⟩
  clear hmc hm hp hne
  by_cases hright : Right (cut x) 0 0
  · have HRt := Lib.hid hright
    have HCR := Lib.hid (fun (v1 : World) (hx : v1.heap[w.heap.size]? = some (.cells (SA x) 28 (0, 0))) => cut_row hx)
    obtain ⟨x', hx'⟩ : ∃ x', x' = cut x := ⟨_, rfl⟩
    have HNW := Lib.hid (fun (v1 : World) (hx : v1.heap[w.heap.size]? = some (.cells (SA x) 28 (0, 0))) (hm : v1.heap[w.heap.size + 1]? = some (.cells (MC sm) 26 (0, 0))) hb => cut_new hx hm hb hright)
    rw [← hx'] at HF1 HF2 HGT HCR HNW
    clear hright hx' HRt
    go_enter Try.func4, Try.ntmps4
    go_wp2_with (first
      | (go_at_call 7; (with_reducible refine (HH.out _).mono ?_); rintro e v1 ⟨rfl, hb⟩; have HB1 := Lib.hid (bTr HB0.out hb); have HX1 := Lib.hid ((hb.block _ (lt_of_heap HX0.out)).trans HX0.out); have HM1 := Lib.hid ((hb.block _ (lt_of_heap HM0.out)).trans HM0.out); have c0 : v1.cell? ⟨w.heap.size, 0, none⟩ = some (.int .i64 x.port) := cell_of_row _ _ 0 _ _ _ HX1.out; have c8 : v1.cell? ⟨w.heap.size, 8, none⟩ = some (.bool x.src) := cell_of_row _ _ 8 _ _ _ HX1.out; have c9 : v1.cell? ⟨w.heap.size, 9, none⟩ = some (.int .i64 x.gate) := cell_of_row _ _ 9 _ _ _ HX1.out; have c13 : v1.cell? ⟨w.heap.size, 13, none⟩ = some (.int .i64 x.rate) := cell_of_row _ _ 13 _ _ _ HX1.out; obtain ⟨f8, f9, f13⟩ := (⟨frozen_of_row v1 _ 8 _ _ HX1.out, frozen_of_row v1 _ 9 _ _ HX1.out, frozen_of_row v1 _ 13 _ _ HX1.out⟩ : _ ∧ _ ∧ _); clear hb)
      | (with_reducible refine at_loadSm ?_; refine wpList_loadSm rfl _ rfl w.heap.size 0 rfl x' (row_cells (HCR.out _ HX1.out)) ?_)
      | (with_reducible refine at_bsSm ?_; refine wpList_bsSm rfl _ rfl x' rfl ?_)
      | (go_at_call 8; (with_reducible refine (HNW.out _ HX1.out HM1.out HB1.out).mono ?_); rintro e w2 ⟨g, cap, rfl, hfs, hc⟩; have HS2 := Lib.hid hfs; have HC := Lib.hid hc; obtain ⟨a0, a1, a2, a3, a4, a5, a6, a7⟩ := hfs.xc; obtain ⟨b0, b1, b2, b3, b4, b5⟩ := hfs.mc; clear hfs hc)
      | (go_at_call 10; (first | (have p0 := HS3; (with_reducible refine (in_some HS3.out.ns rfl HC.out (by simp) (k := 0) (by simp) (fl0 x') rfl HGT.out.1 HGT.out.2 0 _ _ _ _ _ _ HF2.out).mono ?_); rintro e w4 ⟨rfl, hn, ht⟩; have HS4 : Hid (Below w.heap.size w w4) := Lib.hid (HS3.out.bel.trans (hn.bel.mono HS3.out.bel.size)); clear hn ht p0) | ((with_reducible refine (in_none HS2.out.ns (by simp) 0 _ _ _ _ _ _ HF1.out).mono ?_); rintro e w3 ⟨rfl, hn, -⟩; have HS3 := Lib.hid (FS.mk hn HS2.out.hx HS2.out.hm HS2.out.bel); obtain ⟨aa0, aa1, aa2, aa3, aa4, aa5, aa6, aa7⟩ := HS3.out.xc; obtain ⟨bb0, bb1, bb2, bb3, bb4, bb5⟩ := HS3.out.mc; clear hn))))
    go_ret
    exact ⟨rfl, HS4.out⟩
  · have HCR := Lib.hid (fun (v1 : World) (hx : v1.heap[w.heap.size]? = some (.cells (SA x) 28 (0, 0))) => cut_row hx)
    have HNW := Lib.hid (fun (v1 : World) (hx : v1.heap[w.heap.size]? = some (.cells (SA x) 28 (0, 0))) hb => cut_bad hx hb hright)
    obtain ⟨x', hx'⟩ : ∃ x', x' = cut x := ⟨_, rfl⟩
    rw [← hx'] at HCR HNW
    clear hright hx'
    go_enter Try.func4, Try.ntmps4
    go_wp2_with (first
      | (go_at_call 7; (with_reducible refine (HH.out _).mono ?_); rintro e v1 ⟨rfl, hb⟩; have HB1 := Lib.hid (bTr HB0.out hb); have HX1 := Lib.hid ((hb.block _ (lt_of_heap HX0.out)).trans HX0.out); have c0 : v1.cell? ⟨w.heap.size, 0, none⟩ = some (.int .i64 x.port) := cell_of_row _ _ 0 _ _ _ HX1.out; have c8 : v1.cell? ⟨w.heap.size, 8, none⟩ = some (.bool x.src) := cell_of_row _ _ 8 _ _ _ HX1.out; have c9 : v1.cell? ⟨w.heap.size, 9, none⟩ = some (.int .i64 x.gate) := cell_of_row _ _ 9 _ _ _ HX1.out; have c13 : v1.cell? ⟨w.heap.size, 13, none⟩ = some (.int .i64 x.rate) := cell_of_row _ _ 13 _ _ _ HX1.out; obtain ⟨f8, f9, f13⟩ := (⟨frozen_of_row v1 _ 8 _ _ HX1.out, frozen_of_row v1 _ 9 _ _ HX1.out, frozen_of_row v1 _ 13 _ _ HX1.out⟩ : _ ∧ _ ∧ _); clear hb)
      | (with_reducible refine at_loadSm ?_; refine wpList_loadSm rfl _ rfl w.heap.size 0 rfl x' (row_cells (HCR.out _ HX1.out)) ?_)
      | (with_reducible refine at_bsSm ?_; refine wpList_bsSm rfl _ rfl x' rfl ?_)
      | (go_at_call 8; (with_reducible refine (HNW.out _ HX1.out HB1.out).mono ?_); rintro e w2 ⟨rfl, hb⟩; have HB2 := Lib.hid hb; clear hb))
    go_ret
    exact ⟨rfl, HB2.out⟩

theorem sieveForged_holds : Rows.SieveForgedSaid := sieveForged_of (fun p v m0 m1 m2 m3 m4 m5 sr ga pr mx sh ra o n port s0 s1 s2 s3 s4 s5 w _ _ _ _ _ _ _ _ _ _ _ _ h _ _ _ _ _ _ _ => by
  obtain ⟨q, d, rfl⟩ := h.slice
  by_cases hm : 30 < n ∨ p < 0 ∨ port = p
  · exact forged_out ⟨p, v, ⟨m0, m1, m2, m3, m4, m5⟩, sr, ga, pr, mx, sh, ra⟩ q n d port ⟨s0, s1, s2, s3, s4, s5⟩ w hm
  · exact forged_in ⟨p, v, ⟨m0, m1, m2, m3, m4, m5⟩, sr, ga, pr, mx, sh, ra⟩ q n d port ⟨s0, s1, s2, s3, s4, s5⟩ w (fun k => hm (.inl k)) (fun k => hm (.inr (.inl k))) (fun k => hm (.inr (.inr k))))

end Go.Proofs.Ytpdfgdjomlogbab
