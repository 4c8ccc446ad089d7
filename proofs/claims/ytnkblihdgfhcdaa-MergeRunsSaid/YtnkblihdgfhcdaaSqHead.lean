/- The document's example of package seqr. -/
import Derived.Test.YtnkblihdgfhcdaaSqIn
namespace Go.Proofs.Ytnkblihdgfhcdaa
open Go.RowKit Go.Joins

def hnum : Nat → Int
  | 0 => 5 | 1 => 7 | 2 => 6 | 3 => 7 | 4 => 3 | _ => 12
def hwant : Nat → Int
  | 0 => 0 | 1 => 0 | 2 => 3 | 3 => 1 | 4 => 2 | _ => 2
def hst : Nat → SQ
  | 0 => Q0 0 4 100 0
  | k + 1 => (hst k).into 0 (hnum k)
theorem Q0_good {way len reset now : Int} (h : okQ way len reset) (h0 : -9223372036854775808 ≤ now) (h1 : now < 9223372036854775808) : (Q0 way len reset now).Good :=
  ⟨h, by show 0 < _; omega, Int.le_refl _, by show (0 : Int) < 65536; omega, h0, h1⟩
theorem hst_good : ∀ k, (hst k).Good
  | 0 => Q0_good (by decide) (by decide) (by decide)
  | k + 1 => (hst_good k).into (by decide) (by decide) (by unfold hnum; split <;> decide) (by unfold hnum; split <;> decide)
theorem htold : (hst 0).told 0 5 = 0 ∧ (hst 1).told 0 7 = 0 ∧ (hst 2).told 0 6 = 3 ∧ (hst 3).told 0 7 = 1 ∧ (hst 4).told 0 3 = 2 ∧ (hst 5).told 0 12 = 2 := by decide +kernel
/-- Six ints in a block of their own. -/
def Six (w : World) (g : Nat) (x0 x1 x2 x3 x4 x5 : Int) : Prop := w.heap[g]? = some (.cells #[.int .i64 x0, .int .i64 x1, .int .i64 x2, .int .i64 x3, .int .i64 x4, .int .i64 x5] 3 (0, 0))
theorem Six.lt {w : World} {g : Nat} {x0 x1 x2 x3 x4 x5 : Int} (h : Six w g x0 x1 x2 x3 x4 x5) : g < w.heap.size := lt_of_heap h
theorem Six.but {w w' : World} {g b : Nat} {x0 x1 x2 x3 x4 x5 : Int} (h : Six w g x0 x1 x2 x3 x4 x5) (hb : ButB b w w') (hn : g ≠ b) : Six w' g x0 x1 x2 x3 x4 x5 := (hb.block g h.lt hn).trans h
theorem Six.alloc {w : World} {g : Nat} {x0 x1 x2 x3 x4 x5 : Int} (h : Six w g x0 x1 x2 x3 x4 x5) (o : Obj) : Six (w.alloc o) g x0 x1 x2 x3 x4 x5 := ((bAl (bRef w) o).block g h.lt).trans h
theorem Six.cells {w : World} {g : Nat} {x0 x1 x2 x3 x4 x5 : Int} (h : Six w g x0 x1 x2 x3 x4 x5) :
    w.cell? ⟨g, 0, none⟩ = some (.int .i64 x0) ∧ w.cell? ⟨g, 1, none⟩ = some (.int .i64 x1) ∧ w.cell? ⟨g, 2, none⟩ = some (.int .i64 x2) ∧ w.cell? ⟨g, 3, none⟩ = some (.int .i64 x3) ∧ w.cell? ⟨g, 4, none⟩ = some (.int .i64 x4) ∧ w.cell? ⟨g, 5, none⟩ = some (.int .i64 x5) :=
  ⟨cell_of_row _ _ _ _ _ _ h, cell_of_row _ _ _ _ _ _ h, cell_of_row _ _ _ _ _ _ h, cell_of_row _ _ _ _ _ _ h, cell_of_row _ _ _ _ _ _ h, cell_of_row _ _ _ _ _ _ h⟩
set_option maxHeartbeats 4000000 in
theorem head_ret (w : World) : Calls Try.prog 13 #[] w fun e w' => e = .returned (.bool true) ∧ Below w.heap.size w w' := by
  have HN := Lib.hid (fun W => qnew_ok 0 4 100 0 W (by decide))
  obtain ⟨t0, t1, t2, t3, t4, t5⟩ := htold
  have I0 : Hid (∀ W b, Sq W b (hst 0) → Calls Try.prog 16 #[.pointer (some ⟨b, 0, none⟩), .int .i64 0, .int .i64 5] W fun e w' => e = .returned (.tuple #[.int .i64 0, .int .i64 0]) ∧ Sq w' b (hst 1) ∧ ButB b W w') := Lib.hid (fun W b h => by
    have q := in_ok h (hst_good 0) 0 5 (by decide) (by decide) (by decide) (by decide)
    rw [t0] at q; exact q)
  have I1 : Hid (∀ W b, Sq W b (hst 1) → Calls Try.prog 16 #[.pointer (some ⟨b, 0, none⟩), .int .i64 0, .int .i64 7] W fun e w' => e = .returned (.tuple #[.int .i64 0, .int .i64 0]) ∧ Sq w' b (hst 2) ∧ ButB b W w') := Lib.hid (fun W b h => by
    have q := in_ok h (hst_good 1) 0 7 (by decide) (by decide) (by decide) (by decide)
    rw [t1] at q; exact q)
  have I2 : Hid (∀ W b, Sq W b (hst 2) → Calls Try.prog 16 #[.pointer (some ⟨b, 0, none⟩), .int .i64 0, .int .i64 6] W fun e w' => e = .returned (.tuple #[.int .i64 3, .int .i64 0]) ∧ Sq w' b (hst 3) ∧ ButB b W w') := Lib.hid (fun W b h => by
    have q := in_ok h (hst_good 2) 0 6 (by decide) (by decide) (by decide) (by decide)
    rw [t2] at q; exact q)
  have I3 : Hid (∀ W b, Sq W b (hst 3) → Calls Try.prog 16 #[.pointer (some ⟨b, 0, none⟩), .int .i64 0, .int .i64 7] W fun e w' => e = .returned (.tuple #[.int .i64 1, .int .i64 0]) ∧ Sq w' b (hst 4) ∧ ButB b W w') := Lib.hid (fun W b h => by
    have q := in_ok h (hst_good 3) 0 7 (by decide) (by decide) (by decide) (by decide)
    rw [t3] at q; exact q)
  have I4 : Hid (∀ W b, Sq W b (hst 4) → Calls Try.prog 16 #[.pointer (some ⟨b, 0, none⟩), .int .i64 0, .int .i64 3] W fun e w' => e = .returned (.tuple #[.int .i64 2, .int .i64 0]) ∧ Sq w' b (hst 5) ∧ ButB b W w') := Lib.hid (fun W b h => by
    have q := in_ok h (hst_good 4) 0 3 (by decide) (by decide) (by decide) (by decide)
    rw [t4] at q; exact q)
  have I5 : Hid (∀ W b, Sq W b (hst 5) → Calls Try.prog 16 #[.pointer (some ⟨b, 0, none⟩), .int .i64 0, .int .i64 12] W fun e w' => e = .returned (.tuple #[.int .i64 2, .int .i64 0]) ∧ Sq w' b (hst 6) ∧ ButB b W w') := Lib.hid (fun W b h => by
    have q := in_ok h (hst_good 5) 0 12 (by decide) (by decide) (by decide) (by decide)
    rw [t5] at q; exact q)
  clear t0 t1 t2 t3 t4 t5
  go_enter Try.func13, Try.ntmps13
  go_wp2_with (go_at_call 14; (with_reducible refine (HN.out _).mono ?_); rintro e w1 ⟨b, rfl, hm, hb0, hb⟩; have HM := Lib.hid hm; have HB := Lib.hid hb; have HBB := Lib.hid hb0; clear hm hb hb0)
  go_loopw [22] (fun kv wr => ∃ k : Nat, kv = .int .i64 (k : Int) ∧ k ≤ 6 ∧ Sq wr b (hst k) ∧ Six wr w1.heap.size 0 0 3 1 2 2 ∧ Six wr (w1.heap.size + 1) 5 7 6 7 3 12 ∧ b < w1.heap.size ∧ Below w.heap.size w wr) (fun kv _ => 6 - (intOf kv).toNat)
  case atStart =>
    refine ⟨0, rfl, by omega, (HM.out.alloc _).alloc _, Six.alloc (heap_alloc_one' _ _) _, ?_, HM.out.lt, bAl (bAl HB.out _) _⟩
    have := heap_alloc_one' (w1.alloc (.cells #[.int .i64 0, .int .i64 0, .int .i64 3, .int .i64 1, .int .i64 2, .int .i64 2] 3)) (.cells #[.int .i64 5, .int .i64 7, .int .i64 6, .int .i64 7, .int .i64 3, .int .i64 12] 3)
    rw [show (w1.alloc (.cells #[.int .i64 0, .int .i64 0, .int .i64 3, .int .i64 1, .int .i64 2, .int .i64 2] 3)).heap.size = w1.heap.size + 1 by simp] at this
    exact this
  case round =>
    obtain ⟨k, rfl, hk, hm, h1, h2, hlt, hb⟩ := hrel
    have HM1 := Lib.hid hm
    have H1 := Lib.hid h1
    have H2 := Lib.hid h2
    have HL := Lib.hid hlt
    have HB1 := Lib.hid hb
    have HW := HBB.out
    obtain ⟨c0, c1, c2, c3, c4, c5⟩ := h2.cells
    clear hm h1 h2 hb HM HB hlt
    have hk6 : k = 0 ∨ k = 1 ∨ k = 2 ∨ k = 3 ∨ k = 4 ∨ k = 5 ∨ k = 6 := by omega
    clear hk
    rcases hk6 with rfl | rfl | rfl | rfl | rfl | rfl | rfl
    · go_wp2_with (go_at_call 16; (with_reducible refine (I0.out _ _ HM1.out).mono ?_); rintro e w2 ⟨rfl, hm, hb⟩; have HM2 := Lib.hid hm; have HBt := Lib.hid hb; obtain ⟨q0, q1, q2, q3, q4, q5⟩ := (H1.out.but hb (by have := HL.out; omega)).cells; clear hm hb)
      go_roundw
      case rel => exact ⟨1, rfl, by omega, HM2.out, H1.out.but HBt.out (by have := HL.out; omega), H2.out.but HBt.out (by have := HL.out; omega), HL.out, HB1.out.trans (HBt.out.below HBB.out HM1.out.lt)⟩
      case measure => simp [intOf]
    · go_wp2_with (go_at_call 16; (with_reducible refine (I1.out _ _ HM1.out).mono ?_); rintro e w2 ⟨rfl, hm, hb⟩; have HM2 := Lib.hid hm; have HBt := Lib.hid hb; obtain ⟨q0, q1, q2, q3, q4, q5⟩ := (H1.out.but hb (by have := HL.out; omega)).cells; clear hm hb)
      go_roundw
      case rel => exact ⟨2, rfl, by omega, HM2.out, H1.out.but HBt.out (by have := HL.out; omega), H2.out.but HBt.out (by have := HL.out; omega), HL.out, HB1.out.trans (HBt.out.below HBB.out HM1.out.lt)⟩
      case measure => simp [intOf]
    · go_wp2_with (go_at_call 16; (with_reducible refine (I2.out _ _ HM1.out).mono ?_); rintro e w2 ⟨rfl, hm, hb⟩; have HM2 := Lib.hid hm; have HBt := Lib.hid hb; obtain ⟨q0, q1, q2, q3, q4, q5⟩ := (H1.out.but hb (by have := HL.out; omega)).cells; clear hm hb)
      go_roundw
      case rel => exact ⟨3, rfl, by omega, HM2.out, H1.out.but HBt.out (by have := HL.out; omega), H2.out.but HBt.out (by have := HL.out; omega), HL.out, HB1.out.trans (HBt.out.below HBB.out HM1.out.lt)⟩
      case measure => simp [intOf]
    · go_wp2_with (go_at_call 16; (with_reducible refine (I3.out _ _ HM1.out).mono ?_); rintro e w2 ⟨rfl, hm, hb⟩; have HM2 := Lib.hid hm; have HBt := Lib.hid hb; obtain ⟨q0, q1, q2, q3, q4, q5⟩ := (H1.out.but hb (by have := HL.out; omega)).cells; clear hm hb)
      go_roundw
      case rel => exact ⟨4, rfl, by omega, HM2.out, H1.out.but HBt.out (by have := HL.out; omega), H2.out.but HBt.out (by have := HL.out; omega), HL.out, HB1.out.trans (HBt.out.below HBB.out HM1.out.lt)⟩
      case measure => simp [intOf]
    · go_wp2_with (go_at_call 16; (with_reducible refine (I4.out _ _ HM1.out).mono ?_); rintro e w2 ⟨rfl, hm, hb⟩; have HM2 := Lib.hid hm; have HBt := Lib.hid hb; obtain ⟨q0, q1, q2, q3, q4, q5⟩ := (H1.out.but hb (by have := HL.out; omega)).cells; clear hm hb)
      go_roundw
      case rel => exact ⟨5, rfl, by omega, HM2.out, H1.out.but HBt.out (by have := HL.out; omega), H2.out.but HBt.out (by have := HL.out; omega), HL.out, HB1.out.trans (HBt.out.below HBB.out HM1.out.lt)⟩
      case measure => simp [intOf]
    · go_wp2_with (go_at_call 16; (with_reducible refine (I5.out _ _ HM1.out).mono ?_); rintro e w2 ⟨rfl, hm, hb⟩; have HM2 := Lib.hid hm; have HBt := Lib.hid hb; obtain ⟨q0, q1, q2, q3, q4, q5⟩ := (H1.out.but hb (by have := HL.out; omega)).cells; clear hm hb)
      go_roundw
      case rel => exact ⟨6, rfl, by omega, HM2.out, H1.out.but HBt.out (by have := HL.out; omega), H2.out.but HBt.out (by have := HL.out; omega), HL.out, HB1.out.trans (HBt.out.below HBB.out HM1.out.lt)⟩
      case measure => simp [intOf]
    · go_wp2_with fail
      go_ret
      exact ⟨rfl, HB1.out⟩

end Go.Proofs.Ytnkblihdgfhcdaa
