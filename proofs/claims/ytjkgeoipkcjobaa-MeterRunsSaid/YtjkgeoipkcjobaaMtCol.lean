/- Package meter: colour. -/
import Derived.Test.YtjkgeoipkcjobaaMtFillA
namespace Go.Proofs.Ytjkgeoipkcjobaa
open Go.RowKit Go.Joins

section
variable {w w' : World} {b : Nat} {m : MS}
/-- What colour reads. -/
structure Rc (w : World) (b : Nat) (aw sh : Bool) (fi se : Int) (off : Bool) : Prop where
  c5 : w.cell? ⟨b, 5, none⟩ = some (.bool aw)
  c6 : w.cell? ⟨b, 6, none⟩ = some (.bool sh)
  c8 : w.cell? ⟨b, 8, none⟩ = some (.int .i64 fi)
  c9 : w.cell? ⟨b, 9, none⟩ = some (.int .i64 se)
  ca : w.cell? ⟨b, 10, none⟩ = some (.bool off)
  fa : w.frozen? ⟨b, 10, none⟩ = false
theorem Mtr.rc {w : World} {b : Nat} {m : MS} (h : Mtr w b m) : Rc w b m.aw m.sh m.fi m.se m.off :=
  ⟨cell_of_row _ _ _ _ _ _ h, cell_of_row _ _ _ _ _ _ h, cell_of_row _ _ _ _ _ _ h, cell_of_row _ _ _ _ _ _ h, cell_of_row _ _ _ _ _ _ h, frozen_of_row _ _ _ _ _ h⟩
theorem Mtr.drew' {w : World} {b : Nat} {m : MS} (h : Mtr w b m) : Mtr w.drew b m := h
theorem Mtr.setOff (h : Mtr w b m) (x : Bool) : Mtr (w.setCell ⟨b, 10, none⟩ (.bool x)) b { m with off := x } := heap_setCell_same w b 10 _ _ _ h
end
/-- The first pail. -/
theorem take1_yes {w : World} {b : Nat} {m : MS} (h : Mtr w b m) (g : m.Good) (need : Int) (h0 : 0 ≤ need) (h1 : need ≤ m.fi) :
    Calls Try.prog 31 #[.pointer (some ⟨b, 8, none⟩), .int .i64 need] w fun e w' => e = .returned (.bool true) ∧ Mtr w' b { m with fi := m.fi - need } ∧ ButB b w w' :=
  take_yes (b := b) (i := 8) h rfl need h0 h1 (by have := g.f1; have := g.bu1; omega)
theorem take1_no {w : World} {b : Nat} {m : MS} (h : Mtr w b m) (need : Int) (h1 : m.fi < need) :
    Calls Try.prog 31 #[.pointer (some ⟨b, 8, none⟩), .int .i64 need] w fun e w' => e = .returned (.bool false) ∧ Below w.heap.size w w' := take_no h.rc.c8 need h1
theorem take2_yes {w : World} {b : Nat} {m : MS} (h : Mtr w b m) (g : m.Good) (need : Int) (h0 : 0 ≤ need) (h1 : need ≤ m.se) :
    Calls Try.prog 31 #[.pointer (some ⟨b, 9, none⟩), .int .i64 need] w fun e w' => e = .returned (.bool true) ∧ Mtr w' b { m with se := m.se - need } ∧ ButB b w w' :=
  take_yes (b := b) (i := 9) h rfl need h0 h1 (by have := g.s1; have := g.be1; omega)
theorem take2_no {w : World} {b : Nat} {m : MS} (h : Mtr w b m) (need : Int) (h1 : m.se < need) :
    Calls Try.prog 31 #[.pointer (some ⟨b, 9, none⟩), .int .i64 need] w fun e w' => e = .returned (.bool false) ∧ Below w.heap.size w w' := take_no h.rc.c9 need h1

set_option maxHeartbeats 1000000 in
theorem colour_off {w : World} {b : Nat} {m : MS} (h : Mtr w b m) (need : Int) (y : Bool) (ho : m.off = true) :
    Calls Try.prog 20 #[.pointer (some ⟨b, 0, none⟩), .int .i64 need, .bool y] w fun e w' => e = .returned (.int .i64 2) ∧ Below w.heap.size w w' := by
  obtain ⟨c5, c6, c8, c9, ca, fa⟩ := h.rc
  rw [ho] at ca
  go_enter Try.func20, Try.ntmps20
  go_wp2_with fail
  go_ret
  exact ⟨rfl, bRef w⟩
set_option maxHeartbeats 1000000 in
theorem colour_green {w : World} {b : Nat} {m : MS} (h : Mtr w b m) (g : m.Good) (need : Int) (y : Bool) (ho : m.off = false) (h0 : 0 ≤ need) (h1 : need ≤ m.fi) (hy : (m.aw && y) = false) :
    Calls Try.prog 20 #[.pointer (some ⟨b, 0, none⟩), .int .i64 need, .bool y] w fun e w' => e = .returned (.int .i64 0) ∧ Mtr w' b { m with fi := m.fi - need } ∧ ButB b w w' := by
  obtain ⟨c5, c6, c8, c9, ca, fa⟩ := h.rc
  rw [ho] at ca
  have HT := Lib.hid (take1_yes h g need h0 h1)
  clear h1 ho
  obtain ⟨a, ha⟩ : ∃ a, m.aw = a := ⟨_, rfl⟩
  rw [ha] at c5 hy
  clear ha
  cases a <;> cases y <;> simp at hy
  all_goals
    go_enter Try.func20, Try.ntmps20
    go_wp2_with (go_at_call 31; (with_reducible refine HT.out.mono ?_); rintro e w1 ⟨rfl, hm, hb⟩; have HM := Lib.hid hm; have HB := Lib.hid hb; clear hm hb)
    go_ret
    exact ⟨rfl, HM.out, HB.out⟩
set_option maxHeartbeats 1000000 in
theorem colour_yellow {w : World} {b : Nat} {m : MS} (h : Mtr w b m) (g : m.Good) (need : Int) (y : Bool) (ho : m.off = false) (h0 : 0 ≤ need) (h1 : (m.aw && y) = true ∨ m.fi < need) (h2 : need ≤ m.se) :
    Calls Try.prog 20 #[.pointer (some ⟨b, 0, none⟩), .int .i64 need, .bool y] w fun e w' => e = .returned (.int .i64 1) ∧ Mtr w' b { m with se := m.se - need } ∧ ButB b w w' := by
  obtain ⟨c5, c6, c8, c9, ca, fa⟩ := h.rc
  rw [ho] at ca
  by_cases hy : (m.aw && y) = true
  · have HT := Lib.hid (take2_yes h g need h0 h2)
    clear h1 ho
    obtain ⟨a, ha⟩ : ∃ a, m.aw = a := ⟨_, rfl⟩
    rw [ha] at c5 hy
    clear ha
    cases a <;> cases y <;> simp at hy
    go_enter Try.func20, Try.ntmps20
    go_wp2_with (go_at_call 31; (with_reducible refine HT.out.mono ?_); rintro e w1 ⟨rfl, hm, hb⟩; have HM := Lib.hid hm; have HB := Lib.hid hb; clear hm hb)
    go_ret
    exact ⟨rfl, HM.out, HB.out⟩
  · have h3 : m.fi < need := h1.resolve_left hy
    have HN := Lib.hid (take1_no h need h3)
    have H := Lib.hid h
    have HG := Lib.hid g
    have E0 := Lib.hid h0
    have E2 := Lib.hid h2
    clear h1 ho h3 h2 h0
    obtain ⟨a, ha⟩ : ∃ a, m.aw = a := ⟨_, rfl⟩
    rw [ha] at c5 hy
    clear ha
    cases a <;> cases y <;> simp at hy
    all_goals
      go_enter Try.func20, Try.ntmps20
      go_wp2_with (first
        | (go_at_call 31; (with_reducible refine HN.out.mono ?_); rintro e w1 ⟨rfl, hb⟩; have H1 := Lib.hid (H.out.below hb); have HB1 := Lib.hid (ButB.of_below (b := b) hb); clear hb)
        | (go_at_call 31; (with_reducible refine (take2_yes H1.out HG.out need E0.out E2.out).mono ?_); rintro e w2 ⟨rfl, hm, hb⟩; have HM := Lib.hid hm; have HB := Lib.hid (HB1.out.trans hb); clear hm hb))
      go_ret
      exact ⟨rfl, HM.out, HB.out⟩
set_option maxHeartbeats 1000000 in
theorem colour_red {w : World} {b : Nat} {m : MS} (h : Mtr w b m) (need : Int) (y : Bool) (ho : m.off = false) (h1 : (m.aw && y) = true ∨ m.fi < need) (h2 : m.se < need) :
    Calls Try.prog 20 #[.pointer (some ⟨b, 0, none⟩), .int .i64 need, .bool y] w fun e w' => e = .returned (.int .i64 2) ∧ Mtr w' b { m with off := m.sh } ∧ ButB b w w' := by
  obtain ⟨c5, c6, c8, c9, ca, fa⟩ := h.rc
  rw [ho] at ca
  have H := Lib.hid h
  have HBR := Lib.hid (ButB.refl b w)
  by_cases hy : (m.aw && y) = true
  · have HT := Lib.hid (take2_no h need h2)
    clear h1 ho h2 h
    obtain ⟨a, ha⟩ : ∃ a, m.aw = a := ⟨_, rfl⟩
    rw [ha] at c5 hy
    clear ha
    cases a <;> cases y <;> simp at hy
    go_enter Try.func20, Try.ntmps20
    go_wp2_with (go_at_call 31; (with_reducible refine HT.out.mono ?_); rintro e w1 ⟨rfl, hb⟩; have H1 := Lib.hid (H.out.below hb); have HB1 := Lib.hid (ButB.of_below (b := b) hb); clear hb; obtain ⟨d5, d6, d8, d9, da, ea⟩ := H1.out.rc)
    go_ret
    exact ⟨rfl, H1.out.setOff _, HB1.out.trans (set_but H1.out 10 _)⟩
  · have h3 : m.fi < need := h1.resolve_left hy
    have HN := Lib.hid (take1_no h need h3)
    have E2 := Lib.hid h2
    clear h1 ho h3 h2 h
    obtain ⟨a, ha⟩ : ∃ a, m.aw = a := ⟨_, rfl⟩
    rw [ha] at c5 hy
    clear ha
    cases a <;> cases y <;> simp at hy
    all_goals
      go_enter Try.func20, Try.ntmps20
      go_wp2_with (first
        | (go_at_call 31; (with_reducible refine HN.out.mono ?_); rintro e w1 ⟨rfl, hb⟩; have H1 := Lib.hid (H.out.below hb); have HB1 := Lib.hid (ButB.of_below (b := b) hb); clear hb)
        | (go_at_call 31; (with_reducible refine (take2_no H1.out need E2.out).mono ?_); rintro e w2 ⟨rfl, hb⟩; have H2 := Lib.hid (H1.out.below hb); have HB2 := Lib.hid (HB1.out.trans (ButB.of_below (b := b) hb)); clear hb; obtain ⟨d5, d6, d8, d9, da, ea⟩ := H2.out.rc))
      go_ret
      exact ⟨rfl, H2.out.setOff _, HB2.out.trans (set_but H2.out 10 _)⟩

theorem colour_any {w : World} {b : Nat} {m : MS} (h : Mtr w b m) (g : m.Good) (need : Int) (y : Bool) (h0 : 0 ≤ need) :
    Calls Try.prog 20 #[.pointer (some ⟨b, 0, none⟩), .int .i64 need, .bool y] w fun e w' => e = .returned (.int .i64 (m.col need y)) ∧ Mtr w' b (m.took need y) ∧ ButB b w w' := by
  unfold MS.col MS.took
  cases ho : m.off
  · simp only [Bool.false_eq_true, if_false]
    by_cases h1 : ¬ (m.aw && y) = true ∧ need ≤ m.fi
    · rw [if_pos h1, if_pos h1]
      exact (colour_green h g need y ho h0 h1.2 (by simpa using h1.1)).mono fun e w' hh => by rw [ho] at hh; exact hh
    rw [if_neg h1, if_neg h1]
    have h2 : (m.aw && y) = true ∨ m.fi < need := by
      by_cases hy : (m.aw && y) = true
      · exact .inl hy
      · exact .inr (by have : ¬ need ≤ m.fi := fun h => h1 ⟨hy, h⟩; omega)
    by_cases h3 : need ≤ m.se
    · rw [if_pos h3, if_pos h3]
      exact (colour_yellow h g need y ho h0 h2 h3).mono fun e w' hh => by rw [ho] at hh; exact hh
    rw [if_neg h3, if_neg h3]
    exact colour_red h need y ho h2 (by omega)
  · rw [if_pos rfl, if_pos rfl]
    refine (colour_off h need y ho).mono ?_
    rintro e w' ⟨rfl, hb⟩
    exact ⟨rfl, h.below hb, ButB.of_below hb⟩

end Go.Proofs.Ytjkgeoipkcjobaa
