/- Package fdb: Age, Flush. -/
import Derived.Test.YtkbodcgamfkegaaFdForget
namespace Go.Proofs.Ytkbodcgamfkegaa
open Go.RowKit Go.Joins Go.Maps Go.MapKept Go.ChangeMaps Go.WideMaps

section
variable {B m : Nat} {w : World} {b : TB} {s : TS}
theorem age_cl (cb : Nat) (x : Int) (W : World) (c : Int × Int) (hx : W.cell? ⟨cb, 0, none⟩ = some (.int .i64 x)) : Calls Try.prog 33 #[V2 c, .pointer (some ⟨cb, 0, none⟩)] W fun e W' => e = .returned (.bool (decide (c.2 < x))) ∧ Below W.heap.size W W' := by
  have hx1 : (W.alloc (.cells #[.int .i64 c.1, .int .i64 c.2] 86)).cell? ⟨cb, 0, none⟩ = some (.int .i64 x) := ((bAl (bRef W) _).cell (World.block_lt_of_cell? W ⟨cb, 0, none⟩ hx)).trans hx
  have HB := Lib.hid (bAl (bRef W) (.cells #[.int .i64 c.1, .int .i64 c.2] 86))
  go_enter Try.func33, Try.ntmps33
  go_wp2_with fail
  go_ret
  exact ⟨rfl, HB.out⟩
set_option maxHeartbeats 4000000 in
theorem age_any (h : Tab B w b m s) (hm : m ≤ 1000000) (x : Int) :
    Calls Try.prog 14 #[.pointer (some ⟨b.t, 0, none⟩), .int .i64 x] w fun e w' => e = .returned (.int .i64 ((s.E.length - (s.E.filter (fun e => !decide (e.2.2 < x))).length : Nat) : Int)) ∧ Tab B w' b m { s with E := s.E.filter (fun e => !decide (e.2.2 < x)) } ∧ ButB b.e w w' := by
  have hb0 := bAl (bRef w) (.cells #[.int .i64 x] 3)
  have h0 := h.below hb0
  have hr := heap_alloc_one w (.cells #[.int .i64 x] 3)
  have hF := forget_any h0 hm 33 w.heap.size x (fun c => decide (c.2 < x)) (cell_of_row _ _ _ _ _ _ hr) (lt_of_heap hr) (h0.nbox hr).2.2 (fun _ _ => by rfl) (Lib.hid (fun W c hx => age_cl _ x W c hx))
  have HF := Lib.hid hF
  have HB := Lib.hid (ButB.of_below (b := b.e) hb0)
  clear hF h0 hr hb0 h hm
  go_enter Try.func14, Try.ntmps14
  go_wp2_with (go_at_call 31; (with_reducible refine HF.out.mono ?_); rintro e w2 ⟨rfl, ht, hb⟩; have HT := Lib.hid ht; have HB2 := Lib.hid (HB.out.trans hb); clear ht hb)
  go_ret
  exact ⟨rfl, HT.out, HB2.out⟩
theorem flush_cl (cb : Nat) (x : Int) (W : World) (c : Int × Int) (hx : W.cell? ⟨cb, 0, none⟩ = some (.int .i64 x)) : Calls Try.prog 32 #[V2 c, .pointer (some ⟨cb, 0, none⟩)] W fun e W' => e = .returned (.bool (decide (c.1 = x))) ∧ Below W.heap.size W W' := by
  have hx1 : (W.alloc (.cells #[.int .i64 c.1, .int .i64 c.2] 86)).cell? ⟨cb, 0, none⟩ = some (.int .i64 x) := ((bAl (bRef W) _).cell (World.block_lt_of_cell? W ⟨cb, 0, none⟩ hx)).trans hx
  have HB := Lib.hid (bAl (bRef W) (.cells #[.int .i64 c.1, .int .i64 c.2] 86))
  go_enter Try.func32, Try.ntmps32
  go_wp2_with fail
  go_ret
  exact ⟨by show Ending.returned (Value.bool (c.1 == x)) = _; rw [Bool.beq_eq_decide_eq], HB.out⟩
set_option maxHeartbeats 4000000 in
theorem flush_any (h : Tab B w b m s) (hm : m ≤ 1000000) (x : Int) :
    Calls Try.prog 12 #[.pointer (some ⟨b.t, 0, none⟩), .int .i64 x] w fun e w' => e = .returned (.tuple #[]) ∧ Tab B w' b m { s with E := s.E.filter (fun e => !decide (e.2.1 = x)) } ∧ ButB b.e w w' := by
  have hb0 := bAl (bRef w) (.cells #[.int .i64 x] 3)
  have h0 := h.below hb0
  have hr := heap_alloc_one w (.cells #[.int .i64 x] 3)
  have hF := forget_any h0 hm 32 w.heap.size x (fun c => decide (c.1 = x)) (cell_of_row _ _ _ _ _ _ hr) (lt_of_heap hr) (h0.nbox hr).2.2 (fun _ _ => by rfl) (Lib.hid (fun W c hx => flush_cl _ x W c hx))
  have HF := Lib.hid hF
  have HB := Lib.hid (ButB.of_below (b := b.e) hb0)
  clear hF h0 hr hb0 h hm
  go_enter Try.func12, Try.ntmps12
  go_wp2_with (go_at_call 31; (with_reducible refine HF.out.mono ?_); rintro e w2 ⟨rfl, ht, hb⟩; have HT := Lib.hid ht; have HB2 := Lib.hid (HB.out.trans hb); clear ht hb)
  refine bodyPost_end (results_none rfl _ _ _) rfl ?_
  exact ⟨rfl, HT.out, HB2.out⟩
end

end Go.Proofs.Ytkbodcgamfkegaa
