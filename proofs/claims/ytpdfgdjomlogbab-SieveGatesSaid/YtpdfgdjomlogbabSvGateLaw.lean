/- SieveGates: what the law makes; New, Counts there. -/
import Derived.Test.YtpdfgdjomlogbabSvNewG
import Derived.Test.YtpdfgdjomlogbabSvCounts
import Derived.Test.YtpdfgdjomlogbabSvOne
namespace Go.Proofs.Ytpdfgdjomlogbab
open Go.RowKit Go.Joins

def cutG (x : Sm) : Sm := { x with port := -1, src := false, gate := 0, max := 0, rate := -1 }
theorem cutG_row {v1 w : World} {x : Sm} (h : v1.heap[w.heap.size]? = some (.cells (SA x) 28 (0, 0))) : (((((v1.setCell ⟨w.heap.size, 9, none⟩ (.int .i64 0)).setCell ⟨w.heap.size, 13, none⟩ (.int .i64 (-1))).setCell ⟨w.heap.size, 11, none⟩ (.int .i64 0)).setCell ⟨w.heap.size, 0, none⟩ (.int .i64 (-1))).setCell ⟨w.heap.size, 8, none⟩ (.bool false)).heap[w.heap.size]? = some (.cells (SA (cutG x)) 28 (0, 0)) := by
  have h0 : (v1.setCell ⟨w.heap.size, 9, none⟩ (.int .i64 0)).heap[w.heap.size]? = some (.cells (SA { x with gate := 0 }) 28 (0, 0)) := heap_setCell_same v1 _ 9 _ _ _ h
  have h1 : ((v1.setCell ⟨w.heap.size, 9, none⟩ (.int .i64 0)).setCell ⟨w.heap.size, 13, none⟩ (.int .i64 (-1))).heap[w.heap.size]? = some (.cells (SA { x with gate := 0, rate := -1 }) 28 (0, 0)) := heap_setCell_same _ _ 13 _ _ _ h0
  have h2 : (((v1.setCell ⟨w.heap.size, 9, none⟩ (.int .i64 0)).setCell ⟨w.heap.size, 13, none⟩ (.int .i64 (-1))).setCell ⟨w.heap.size, 11, none⟩ (.int .i64 0)).heap[w.heap.size]? = some (.cells (SA { x with gate := 0, rate := -1, max := 0 }) 28 (0, 0)) := heap_setCell_same _ _ 11 _ _ _ h1
  have h3 : ((((v1.setCell ⟨w.heap.size, 9, none⟩ (.int .i64 0)).setCell ⟨w.heap.size, 13, none⟩ (.int .i64 (-1))).setCell ⟨w.heap.size, 11, none⟩ (.int .i64 0)).setCell ⟨w.heap.size, 0, none⟩ (.int .i64 (-1))).heap[w.heap.size]? = some (.cells (SA { x with gate := 0, rate := -1, max := 0, port := -1 }) 28 (0, 0)) := heap_setCell_same _ _ 0 _ _ _ h2
  exact heap_setCell_same _ _ 8 _ _ _ h3
theorem cutG_off {v1 w : World} {j : Nat} (hj : j ≠ w.heap.size) : (((((v1.setCell ⟨w.heap.size, 9, none⟩ (.int .i64 0)).setCell ⟨w.heap.size, 13, none⟩ (.int .i64 (-1))).setCell ⟨w.heap.size, 11, none⟩ (.int .i64 0)).setCell ⟨w.heap.size, 0, none⟩ (.int .i64 (-1))).setCell ⟨w.heap.size, 8, none⟩ (.bool false)).heap[j]? = v1.heap[j]? := by
  rw [heap_setCell_other _ _ _ _ hj, heap_setCell_other _ _ _ _ hj, heap_setCell_other _ _ _ _ hj, heap_setCell_other _ _ _ _ hj, heap_setCell_other _ _ _ _ hj]
/-- The sieve, and the law's two boxes. -/
structure GB (w W1 : World) (b g cap h hc : Nat) (x' : Sm) (B C : Int) (sl sl' : Value) (ts : List (Int × Int)) (k n : Nat) (W : World) : Prop where
  ng : NG W1 b g cap h hc { fl0 x' with c0 := (n : Int), c3 := (k : Int) - (n : Int) } B C sl' ts W
  hx : W1.heap[w.heap.size]? = some (.cells (SA x') 28 (0, 0))
  hl : W1.heap[w.heap.size + 1]? = some (.cells #[.int .i64 B, .int .i64 C, sl] 46 (0, 0))
  bel : Below w.heap.size w W1
section
variable {w W1 W W' : World} {b g cap h hc : Nat} {x' : Sm} {B C : Int} {sl sl' : Value} {ts : List (Int × Int)} {k n : Nat}
theorem GB.all (p : GB w W1 b g cap h hc x' B C sl sl' ts k n W) : Below w.heap.size w W := p.bel.trans (p.ng.bel.mono p.bel.size)
theorem GB.bx (p : GB w W1 b g cap h hc x' B C sl sl' ts k n W) : W.heap[w.heap.size]? = some (.cells (SA x') 28 (0, 0)) := (p.ng.bel.block _ (lt_of_heap p.hx)).trans p.hx
theorem GB.bl (p : GB w W1 b g cap h hc x' B C sl sl' ts k n W) : LB W (w.heap.size + 1) B C sl := (p.ng.bel.block _ (lt_of_heap p.hl)).trans p.hl
theorem GB.below (p : GB w W1 b g cap h hc x' B C sl sl' ts k n W) (hb : Below W.heap.size W W') : GB w W1 b g cap h hc x' B C sl sl' ts k n W' := ⟨p.ng.below hb, p.hx, p.hl, p.bel⟩
theorem GB.xc (p : GB w W1 b g cap h hc x' B C sl sl' ts k n W) : W.cell? ⟨w.heap.size, 1, none⟩ = some (.int .i64 x'.vid) ∧ W.cell? ⟨w.heap.size, 2, none⟩ = some (.int .u8 x'.mac.x0) ∧ W.cell? ⟨w.heap.size, 3, none⟩ = some (.int .u8 x'.mac.x1) ∧ W.cell? ⟨w.heap.size, 4, none⟩ = some (.int .u8 x'.mac.x2) ∧ W.cell? ⟨w.heap.size, 5, none⟩ = some (.int .u8 x'.mac.x3) ∧ W.cell? ⟨w.heap.size, 6, none⟩ = some (.int .u8 x'.mac.x4) ∧ W.cell? ⟨w.heap.size, 7, none⟩ = some (.int .u8 x'.mac.x5) :=
  ⟨cell_of_row _ _ 1 _ _ _ p.bx, cell_of_row _ _ 2 _ _ _ p.bx, cell_of_row _ _ 3 _ _ _ p.bx, cell_of_row _ _ 4 _ _ _ p.bx, cell_of_row _ _ 5 _ _ _ p.bx, cell_of_row _ _ 6 _ _ _ p.bx, cell_of_row _ _ 7 _ _ _ p.bx⟩
/-- A frame: the gate is shut, or open. -/
theorem GB.shut (p : GB w W1 b g cap h hc x' B C sl sl' ts k n W) (hx : x'.port = -1 ∧ x'.src = false ∧ x'.gate = 0 ∧ x'.max = 0 ∧ x'.rate = -1) (hk : k ≤ 40) (hn : n ≤ k) (t : Int) (hm : stateV B C ts t % 2 = 0) :
    Calls Try.prog 10 #[.pointer (some ⟨b, 0, none⟩), .int .i64 t, .int .i64 0, .int .i64 x'.vid, MV x'.mac, .agg #[.int .u8 0, .int .u8 0, .int .u8 0, .int .u8 0, .int .u8 0, .int .u8 0], .int .i64 0, .int .i64 99] W fun e w' => (∃ pr, e = .returned (.tuple #[.int .i64 0, .int .i64 pr, .bool false, .int .i64 3])) ∧ GB w W1 b g cap h hc x' B C sl sl' ts (k + 1) n w' := by
  obtain ⟨h0, h1, h2, h3, h4⟩ := hx
  refine (in_gate p.ng rfl h3 h2 h4 t 0 x'.vid x'.mac M6.zero 0 99 ⟨rfl, .inl h0, by show x'.mac = if x'.src = true then M6.zero else x'.mac; rw [h1]; rfl⟩).mono fun e w' ⟨he, hn'⟩ => ?_
  have hv : gateV B C ts t = 3 := if_pos hm
  rw [hv] at he hn'
  refine ⟨he, ?_, p.hx, p.hl, p.bel⟩
  have e1 : wrap64 ((k : Int) - (n : Int) + 1) = ((k + 1 : Nat) : Int) - (n : Int) := by unfold wrap64; omega
  rw [← e1]; exact hn'
theorem GB.opn (p : GB w W1 b g cap h hc x' B C sl sl' ts k n W) (hx : x'.port = -1 ∧ x'.src = false ∧ x'.gate = 0 ∧ x'.max = 0 ∧ x'.rate = -1) (hk : k ≤ 40) (hn : n ≤ k) (t : Int) (hm : ¬ stateV B C ts t % 2 = 0) :
    Calls Try.prog 10 #[.pointer (some ⟨b, 0, none⟩), .int .i64 t, .int .i64 0, .int .i64 x'.vid, MV x'.mac, .agg #[.int .u8 0, .int .u8 0, .int .u8 0, .int .u8 0, .int .u8 0, .int .u8 0], .int .i64 0, .int .i64 99] W fun e w' => (∃ pr, e = .returned (.tuple #[.int .i64 0, .int .i64 pr, .bool false, .int .i64 0])) ∧ GB w W1 b g cap h hc x' B C sl sl' ts (k + 1) (n + 1) w' := by
  obtain ⟨h0, h1, h2, h3, h4⟩ := hx
  refine (in_gate p.ng rfl h3 h2 h4 t 0 x'.vid x'.mac M6.zero 0 99 ⟨rfl, .inl h0, by show x'.mac = if x'.src = true then M6.zero else x'.mac; rw [h1]; rfl⟩).mono fun e w' ⟨he, hn'⟩ => ?_
  have hv : gateV B C ts t = 0 := if_neg hm
  rw [hv] at he hn'
  refine ⟨he, ?_, p.hx, p.hl, p.bel⟩
  have e1 : wrap64 ((n : Int) + 1) = ((n + 1 : Nat) : Int) := by unfold wrap64; omega
  rw [show ((k + 1 : Nat) : Int) - ((n + 1 : Nat) : Int) = (k : Int) - (n : Int) by omega, ← e1]; exact hn'
end
set_option maxHeartbeats 1000000 in
theorem counts_gate {w W : World} {b g cap h hc : Nat} {f : Fl} {B C : Int} {sl : Value} {ts : List (Int × Int)} (p : NG w b g cap h hc f B C sl ts W) :
    Calls Try.prog 11 #[.pointer (some ⟨b, 0, none⟩), .int .i64 0] W fun e w' => e = .returned (.agg (CV f)) ∧ Below W.heap.size W w' := by
  have HB := bAl (bRef W) (.cells #[.int .i64 0, .int .i64 0, .int .i64 0, .int .i64 0, .int .i64 0, .int .i64 0] 38)
  have h' := p.below HB
  have b0 := cell_of_row _ _ 0 _ _ _ h'.box
  have HC := Lib.hid (fun j v (hj : (CV f).toList[j]? = some v) => (h'.at (15 + j) (by have := (CV_at f j v hj).1; omega)).trans (CV_at f j v hj).2)
  clear p h'
  go_enter Try.func11, Try.ntmps11
  go_wp2_with (with_reducible refine at_loadC ?_; refine wpList_load_part rfl _ _ rfl g 15 rfl (CV f) _ HC.out Try.underlying38 rfl (by kernel_rfl) ?_)
  exact bodyPost_ret (results_cell_row rfl _ _ W.heap.size 38 _ (0, 0) _ rfl (heap_alloc_one _ _) Try.underlying38 rfl (by kernel_rfl)) rfl ⟨rfl, bAl (bRef W) _⟩
set_option maxHeartbeats 1000000 in
theorem cutG_new {w v1 : World} {x : Sm} {B C : Int} {sp : Option Addr} {sc : Nat} {ts : List (Int × Int)} (hx : v1.heap[w.heap.size]? = some (.cells (SA x) 28 (0, 0))) (hm : v1.heap[w.heap.size + 1]? = some (.cells #[.int .i64 B, .int .i64 C, .slice sp ts.length sc] 46 (0, 0))) (hb : Below w.heap.size w v1) (ht : TArg w (.slice sp ts.length sc) ts) :
    Calls Try.prog 8 #[.slice (some ⟨v1.heap.size, 0, none⟩) 1 1, .slice (some ⟨v1.heap.size + 1, 0, none⟩) 1 1, .slice none 0 0, .int .i64 0] (((((((v1.setCell ⟨w.heap.size, 9, none⟩ (.int .i64 0)).setCell ⟨w.heap.size, 13, none⟩ (.int .i64 (-1))).setCell ⟨w.heap.size, 11, none⟩ (.int .i64 0)).setCell ⟨w.heap.size, 0, none⟩ (.int .i64 (-1))).setCell ⟨w.heap.size, 8, none⟩ (.bool false)).alloc (.cells (SA (cutG x)) 28)).alloc (.cells #[.int .i64 B, .int .i64 C, .slice sp ts.length sc] 46)) fun e w' =>
      ((Right (cutG x) 1 0 ∧ chkV B C ts = 0) → ∃ b g cap h hc sl', e = .returned (.tuple #[.pointer (some ⟨b, 0, none⟩), .int .i64 0]) ∧ ∃ W1, GB w W1 b g cap h hc (cutG x) B C (.slice sp ts.length sc) sl' ts 0 0 w') ∧
      (¬ (Right (cutG x) 1 0 ∧ chkV B C ts = 0) → ∃ c : Int, c ≠ 0 ∧ e = .returned (.tuple #[.pointer none, .int .i64 c]) ∧ Below w.heap.size w w') := by
  have hsz : (((((v1.setCell ⟨w.heap.size, 9, none⟩ (.int .i64 0)).setCell ⟨w.heap.size, 13, none⟩ (.int .i64 (-1))).setCell ⟨w.heap.size, 11, none⟩ (.int .i64 0)).setCell ⟨w.heap.size, 0, none⟩ (.int .i64 (-1))).setCell ⟨w.heap.size, 8, none⟩ (.bool false)).heap.size = v1.heap.size := by simp
  have hl := lt_of_heap hx
  have hl2 := lt_of_heap hm
  have hA : Below w.heap.size w (((((v1.setCell ⟨w.heap.size, 9, none⟩ (.int .i64 0)).setCell ⟨w.heap.size, 13, none⟩ (.int .i64 (-1))).setCell ⟨w.heap.size, 11, none⟩ (.int .i64 0)).setCell ⟨w.heap.size, 0, none⟩ (.int .i64 (-1))).setCell ⟨w.heap.size, 8, none⟩ (.bool false)) := ((((hb.setCell (Nat.le_refl _) _).setCell (Nat.le_refl _) _).setCell (Nat.le_refl _) _).setCell (Nat.le_refl _) _).setCell (Nat.le_refl _) _
  have hcx := cutG_row hx
  have hcm := (cutG_off (w := w) (v1 := v1) (j := w.heap.size + 1) (by omega)).trans hm
  generalize (((((v1.setCell ⟨w.heap.size, 9, none⟩ (.int .i64 0)).setCell ⟨w.heap.size, 13, none⟩ (.int .i64 (-1))).setCell ⟨w.heap.size, 11, none⟩ (.int .i64 0)).setCell ⟨w.heap.size, 0, none⟩ (.int .i64 (-1))).setCell ⟨w.heap.size, 8, none⟩ (.bool false)) = V at hsz hA hcx hcm ⊢
  have hB2 : Below w.heap.size w ((V.alloc (.cells (SA (cutG x)) 28)).alloc (.cells #[.int .i64 B, .int .i64 C, .slice sp ts.length sc] 46)) := bAl (bAl hA _) _
  have hV2 : Below V.heap.size V ((V.alloc (.cells (SA (cutG x)) 28)).alloc (.cells #[.int .i64 B, .int .i64 C, .slice sp ts.length sc] 46)) := bAl (bAl (bRef V) _) _
  have h0 := heap_alloc_one (V.alloc (.cells (SA (cutG x)) 28)) (.cells #[.int .i64 B, .int .i64 C, .slice sp ts.length sc] 46)
  rw [show (V.alloc (.cells (SA (cutG x)) 28)).heap.size = v1.heap.size + 1 by simp [hsz]] at h0
  have h1 := (one_arg V (cutG x)).below (bAl (bRef _) (.cells #[.int .i64 B, .int .i64 C, .slice sp ts.length sc] 46))
  rw [hsz] at h1
  refine (newG_any 0 h1 rfl h0 (ht.below hB2)).mono fun e w' hh => ?_
  rcases hh with ⟨c, hc0, hno, he, hbw⟩ | ⟨he, hr, hck, g, cap, h, hc, sl', hng⟩
  · exact ⟨fun hy => absurd hy hno, fun _ => ⟨c, hc0, he, hB2.trans (hbw.mono hB2.size)⟩⟩
  · refine ⟨fun _ => ⟨_, g, cap, h, hc, sl', he, _, ⟨?_, ?_, ?_, hB2⟩⟩, fun hn => absurd ⟨hr, hck⟩ hn⟩
    · have e0 : ({ fl0 (cutG x) with c0 := ((0 : Nat) : Int), c3 := ((0 : Nat) : Int) - ((0 : Nat) : Int) } : Fl) = fl0 (cutG x) := rfl
      rw [e0]; exact hng
    · exact (hV2.block _ (by rw [hsz]; exact hl)).trans hcx
    · exact (hV2.block _ (by rw [hsz]; exact hl2)).trans hcm

end Go.Proofs.Ytpdfgdjomlogbab
