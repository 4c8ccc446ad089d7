/- Package meter: its calls. -/
import Derived.Test.YtjkgeoipkcjobaaMtWait
import Derived.Test.YtjkgeoipkcjobaaMtCol
namespace Go.Proofs.Ytjkgeoipkcjobaa
open Go.RowKit Go.Joins

theorem in_nil (now size : Int) (y : Bool) (w : World) :
    Calls Try.prog 11 #[.pointer none, .int .i64 now, .int .i64 size, .bool y] w fun e w' => e = .returned (.tuple #[.int .i64 2, .int .i64 1]) ∧ Below w.heap.size w w' := by
  go_enter Try.func11, Try.ntmps11
  go_wp2_with fail
  go_ret2
  exact ⟨rfl, bRef w⟩
theorem in_size (b : Nat) (now size : Int) (y : Bool) (w : World) (hs : size < 0 ∨ 1600 < size) :
    Calls Try.prog 11 #[.pointer (some ⟨b, 0, none⟩), .int .i64 now, .int .i64 size, .bool y] w fun e w' => e = .returned (.tuple #[.int .i64 2, .int .i64 1]) ∧ Below w.heap.size w w' := by
  by_cases h : size < 0
  · have d : decide (size < 0) = true := decide_eq_true h
    clear hs
    go_enter Try.func11, Try.ntmps11
    go_wp2_with fail
    go_ret2
    exact ⟨rfl, bRef w⟩
  · have d : decide (size < 0) = false := decide_eq_false h
    have d2 : decide (1600 < size) = true := decide_eq_true (by omega)
    clear hs h
    go_enter Try.func11, Try.ntmps11
    go_wp2_with fail
    go_ret2
    exact ⟨rfl, bRef w⟩
theorem in_order {w : World} {b : Nat} {m : MS} (h : Mtr w b m) (now size : Int) (y : Bool) (h0 : 0 ≤ size) (h1 : size ≤ 1600) (h2 : now < m.last) :
    Calls Try.prog 11 #[.pointer (some ⟨b, 0, none⟩), .int .i64 now, .int .i64 size, .bool y] w fun e w' => e = .returned (.tuple #[.int .i64 2, .int .i64 31]) ∧ Below w.heap.size w w' := by
  have d : decide (size < 0) = false := decide_eq_false (by omega)
  have d2 : decide (1600 < size) = false := decide_eq_false (by omega)
  have d3 : decide (now < m.last) = true := decide_eq_true h2
  obtain ⟨_, _, _, _, _, _, _, c7, _⟩ := h.cells
  clear h0 h1 h2
  go_enter Try.func11, Try.ntmps11
  go_wp2_with fail
  go_ret2
  exact ⟨rfl, bRef w⟩
theorem in_late {w : World} {b : Nat} {m : MS} (h : Mtr w b m) (now size : Int) (y : Bool) (h0 : 0 ≤ size) (h1 : size ≤ 1600) (h2 : m.last ≤ now) (h3 : 1099511627776 < now) :
    Calls Try.prog 11 #[.pointer (some ⟨b, 0, none⟩), .int .i64 now, .int .i64 size, .bool y] w fun e w' => e = .returned (.tuple #[.int .i64 2, .int .i64 1]) ∧ Below w.heap.size w w' := by
  have d : decide (size < 0) = false := decide_eq_false (by omega)
  have d2 : decide (1600 < size) = false := decide_eq_false (by omega)
  have d3 : decide (now < m.last) = false := decide_eq_false (by omega)
  have d4 : decide (1099511627776 < now) = true := decide_eq_true h3
  obtain ⟨_, _, _, _, _, _, _, c7, _⟩ := h.cells
  clear h0 h1 h2 h3
  go_enter Try.func11, Try.ntmps11
  go_wp2_with fail
  go_ret2
  exact ⟨rfl, bRef w⟩
set_option maxHeartbeats 1000000 in
theorem in_ok {w : World} {b : Nat} {m : MS} (h : Mtr w b m) (g : m.Good) (now size : Int) (y : Bool) (h0 : 0 ≤ size) (h1 : size ≤ 1600) (h2 : m.last ≤ now) (h3 : now ≤ 1099511627776) :
    Calls Try.prog 11 #[.pointer (some ⟨b, 0, none⟩), .int .i64 now, .int .i64 size, .bool y] w fun e w' => e = .returned (.tuple #[.int .i64 (m.told now size y), .int .i64 0]) ∧ Mtr w' b (m.into now size y) ∧ ButB b w w' := by
  have d : decide (size < 0) = false := decide_eq_false (by omega)
  have d2 : decide (1600 < size) = false := decide_eq_false (by omega)
  have d3 : decide (now < m.last) = false := decide_eq_false (by omega)
  have d4 : decide (1099511627776 < now) = false := decide_eq_false (by omega)
  obtain ⟨_, _, _, _, _, _, _, c7, _⟩ := h.cells
  have HW := Lib.hid (wait_any h g now h2 h3)
  have G2 := Lib.hid (g.wait h2 h3)
  obtain ⟨need, hn⟩ : ∃ need, size * 8 * 1000000000 = need := ⟨_, rfl⟩
  have w1 : wrap64 (wrap64 (size * 8) * 1000000000) = need := by unfold wrap64; omega
  have w2 : IntKind.i64.wrap (IntKind.i64.wrap (size * 8) * 1000000000) = need := by rw [IntKind.wrap_i64, IntKind.wrap_i64]; omega
  have w3 : wrap64 (size * 8) = size * 8 := by unfold wrap64; omega
  have w4 : wrap64 need = need := by unfold wrap64; omega
  have HN : Hid (0 ≤ need) := Lib.hid (by omega)
  have E1 : m.told now size y = (m.wait now).col need y := by unfold MS.told; rw [hn]
  have E2 : m.into now size y = (m.wait now).took need y := by unfold MS.into; rw [hn]
  rw [E1, E2]
  clear h0 h1 h2 h3 E1 E2
  go_enter Try.func11, Try.ntmps11
  go_wp2_with (first
    | (go_at_call 19; (with_reducible refine HW.out.mono ?_); rintro e wa ⟨rfl, hm, hb⟩; have HM := Lib.hid hm; have HB := Lib.hid hb; clear hm hb)
    | (go_at_call 20; (with_reducible refine (colour_any HM.out G2.out need y HN.out).mono ?_); rintro e wb ⟨rfl, hm, hb⟩; have HM2 := Lib.hid hm; have HB2 := Lib.hid (HB.out.trans hb); clear hm hb))
  go_ret2
  exact ⟨rfl, HM2.out, HB2.out⟩

theorem open_any {w : World} {b : Nat} {m : MS} (h : Mtr w b m) :
    Calls Try.prog 13 #[.pointer (some ⟨b, 0, none⟩)] w fun e w' => e = .returned (.tuple #[]) ∧ Mtr w' b { m with off := false } ∧ ButB b w w' := by
  obtain ⟨c5, c6, c8, c9, ca, fa⟩ := h.rc
  go_enter Try.func13, Try.ntmps13
  go_wp2_with fail
  go_end0
  exact ⟨rfl, h.setOff _, set_but h 10 _⟩
theorem open_nil (w : World) :
    Calls Try.prog 13 #[.pointer none] w fun e w' => e = .returned (.tuple #[]) ∧ Below w.heap.size w w' := by
  go_enter Try.func13, Try.ntmps13
  go_wp2_with fail
  go_end0
  exact ⟨rfl, bRef w⟩
theorem shut_any {w : World} {b : Nat} {m : MS} (h : Mtr w b m) :
    Calls Try.prog 14 #[.pointer (some ⟨b, 0, none⟩)] w fun e w' => e = .returned (.bool m.off) ∧ Below w.heap.size w w' := by
  obtain ⟨c5, c6, c8, c9, ca, fa⟩ := h.rc
  go_enter Try.func14, Try.ntmps14
  go_wp2_with fail
  go_ret
  exact ⟨rfl, bRef w⟩
theorem shut_nil (w : World) :
    Calls Try.prog 14 #[.pointer none] w fun e w' => e = .returned (.bool false) ∧ Below w.heap.size w w' := by
  go_enter Try.func14, Try.ntmps14
  go_wp2_with fail
  go_ret
  exact ⟨rfl, bRef w⟩
theorem bits_nil (w : World) :
    Calls Try.prog 12 #[.pointer none] w fun e w' => e = .returned (.tuple #[.int .i64 0, .int .i64 0]) ∧ Below w.heap.size w w' := by
  go_enter Try.func12, Try.ntmps12
  go_wp2_with fail
  go_ret2
  exact ⟨rfl, bRef w⟩
theorem bits_any {w : World} {b : Nat} {m : MS} (h : Mtr w b m) (g : m.Good) :
    Calls Try.prog 12 #[.pointer (some ⟨b, 0, none⟩)] w fun e w' => e = .returned (.tuple #[.int .i64 (m.fi / 1000000000), .int .i64 (m.se / 1000000000)]) ∧ Below w.heap.size w w' := by
  obtain ⟨c5, c6, c8, c9, ca, fa⟩ := h.rc
  have g1 := g.f0
  have g2 := g.f1
  have g3 := g.bu1
  have g4 := g.s0
  have g5 := g.s1
  have g6 := g.be1
  have q1 : m.fi.tdiv 1000000000 = m.fi / 1000000000 := by rw [Int.tdiv_eq_ediv_of_nonneg g1]
  have q2 : m.se.tdiv 1000000000 = m.se / 1000000000 := by rw [Int.tdiv_eq_ediv_of_nonneg g4]
  have q3 : wrap64 (m.fi / 1000000000) = m.fi / 1000000000 := by unfold wrap64; omega
  have q4 : wrap64 (m.se / 1000000000) = m.se / 1000000000 := by unfold wrap64; omega
  clear g1 g2 g3 g4 g5 g6
  go_enter Try.func12, Try.ntmps12
  go_wp2_with fail
  go_quiet (fail)
  go_wp2_with fail
  go_ret2
  exact ⟨ret_ii q3 q4, bDr (bRef w) _⟩

end Go.Proofs.Ytjkgeoipkcjobaa
