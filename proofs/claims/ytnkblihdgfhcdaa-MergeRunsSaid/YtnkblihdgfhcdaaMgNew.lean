/- Package merge: Check, New, Look, Silent, Counts (gen_mgnew.py). -/
import Derived.Test.YtnkblihdgfhcdaaMgOps
import Derived.Deep.RegionLaw
import Derived.Maps.AppendAt
import Derived.Laws.OwnMore
namespace Go.Proofs.Ytnkblihdgfhcdaa
open Go.RowKit Go.Joins

abbrev MV (ways w1 l1 r1 w2 l2 r2 every limit : Int) : Value := .agg #[.int .i64 ways, .int .i64 w1, .int .i64 l1, .int .i64 r1, .int .i64 w2, .int .i64 l2, .int .i64 r2, .int .i64 every, .int .i64 limit]
def okM (ways w1 l1 r1 w2 l2 r2 every limit : Int) : Prop := (1 ≤ ways ∧ ways ≤ 8) ∧ (1 ≤ every ∧ every ≤ 1099511627776) ∧ (0 ≤ limit ∧ limit ≤ 1073741824) ∧ okQ w1 l1 r1 ∧ okQ w2 l2 r2
instance (ways w1 l1 r1 w2 l2 r2 every limit : Int) : Decidable (okM ways w1 l1 r1 w2 l2 r2 every limit) := by unfold okM; infer_instance
/-- A setup in its box. -/
def MB (w : World) (b : Nat) (ways w1 l1 r1 w2 l2 r2 every limit : Int) : Prop := w.heap[b]? = some (.cells #[.int .i64 ways, .int .i64 w1, .int .i64 l1, .int .i64 r1, .int .i64 w2, .int .i64 l2, .int .i64 r2, .int .i64 every, .int .i64 limit] 59 (0, 0))
section
variable {w w' : World} {b : Nat} {ways w1 l1 r1 w2 l2 r2 every limit : Int}
theorem MB.lt (h : MB w b ways w1 l1 r1 w2 l2 r2 every limit) : b < w.heap.size := lt_of_heap h
theorem MB.new (w : World) (ways w1 l1 r1 w2 l2 r2 every limit : Int) : MB (w.alloc (.cells #[.int .i64 ways, .int .i64 w1, .int .i64 l1, .int .i64 r1, .int .i64 w2, .int .i64 l2, .int .i64 r2, .int .i64 every, .int .i64 limit] 59)) w.heap.size ways w1 l1 r1 w2 l2 r2 every limit := heap_alloc_one' _ _
theorem MB.below (h : MB w b ways w1 l1 r1 w2 l2 r2 every limit) (hb : Below w.heap.size w w') : MB w' b ways w1 l1 r1 w2 l2 r2 every limit := (hb.block b h.lt).trans h
theorem MB.butI {lo hi : Nat} (h : MB w b ways w1 l1 r1 w2 l2 r2 every limit) (hb : ButI lo hi w w') (hn : b < lo ∨ hi ≤ b) : MB w' b ways w1 l1 r1 w2 l2 r2 every limit := (hb.block b h.lt hn).trans h
theorem MB.cells (h : MB w b ways w1 l1 r1 w2 l2 r2 every limit) : w.cell? ⟨b, 0, none⟩ = some (.int .i64 ways) ∧ w.cell? ⟨b, 1, none⟩ = some (.int .i64 w1) ∧ w.cell? ⟨b, 2, none⟩ = some (.int .i64 l1) ∧ w.cell? ⟨b, 3, none⟩ = some (.int .i64 r1) ∧ w.cell? ⟨b, 4, none⟩ = some (.int .i64 w2) ∧ w.cell? ⟨b, 5, none⟩ = some (.int .i64 l2) ∧ w.cell? ⟨b, 6, none⟩ = some (.int .i64 r2) ∧ w.cell? ⟨b, 7, none⟩ = some (.int .i64 every) ∧ w.cell? ⟨b, 8, none⟩ = some (.int .i64 limit) :=
  ⟨cell_of_row _ _ _ _ _ _ h, cell_of_row _ _ _ _ _ _ h, cell_of_row _ _ _ _ _ _ h, cell_of_row _ _ _ _ _ _ h, cell_of_row _ _ _ _ _ _ h, cell_of_row _ _ _ _ _ _ h, cell_of_row _ _ _ _ _ _ h, cell_of_row _ _ _ _ _ _ h, cell_of_row _ _ _ _ _ _ h⟩
end
set_option maxHeartbeats 1000000 in
theorem mcheck_yes (ways w1 l1 r1 w2 l2 r2 every limit : Int) (w : World) (h : okM ways w1 l1 r1 w2 l2 r2 every limit) : Calls Try.prog 41 #[MV ways w1 l1 r1 w2 l2 r2 every limit] w fun e w' => e = .returned (.int .i64 0) ∧ Below w.heap.size w w' := by
  obtain ⟨⟨a1, a2⟩, ⟨a3, a4⟩, ⟨a5, a6⟩, o1, o2⟩ := h
  have d0 : decide (ways < 1) = false := decide_eq_false (by omega)
  have d1 : decide (8 < ways) = false := decide_eq_false (by omega)
  have d2 : decide (every < 1) = false := decide_eq_false (by omega)
  have d3 : decide (1099511627776 < every) = false := decide_eq_false (by omega)
  have d4 : decide (limit < 0) = false := decide_eq_false (by omega)
  have d5 : decide (1073741824 < limit) = false := decide_eq_false (by omega)
  have H1 := Lib.hid (fun W => qcheck_yes w1 l1 r1 W o1)
  have H2 := Lib.hid (fun W => qcheck_yes w2 l2 r2 W o2)
  have K0 := Lib.hid (MB.new w ways w1 l1 r1 w2 l2 r2 every limit)
  have ST : Hid True := Lib.hid trivial
  clear a1 a2 a3 a4 a5 a6 o1 o2
  go_enter Try.func41, Try.ntmps41
  go_wp2_with (first
    | (go_at_call 18; (with_reducible refine (H1.out _).mono ?_); rintro e x1 ⟨rfl, hb⟩; clear ST; have HB1 := Lib.hid (bTr (bAl (bRef w) _) hb); obtain ⟨k0, k1, k2, k3, k4, k5, k6, k7, k8⟩ := (K0.out.below hb).cells; clear hb)
    | (go_at_call 18; (with_reducible refine (H2.out _).mono ?_); rintro e x2 ⟨rfl, hb⟩; have HB2 := Lib.hid (bTr HB1.out hb); clear hb))
  go_ret
  exact ⟨rfl, HB2.out⟩
set_option maxHeartbeats 1000000 in
theorem mcheck_no (ways w1 l1 r1 w2 l2 r2 every limit : Int) (w : World) (h : ¬ okM ways w1 l1 r1 w2 l2 r2 every limit) : Calls Try.prog 41 #[MV ways w1 l1 r1 w2 l2 r2 every limit] w fun e w' => e = .returned (.int .i64 1) ∧ Below w.heap.size w w' := by
  have K0 := Lib.hid (MB.new w ways w1 l1 r1 w2 l2 r2 every limit)
  by_cases c0 : ways < 1
  · have d0 : decide (ways < 1) = true := decide_eq_true c0
    clear h c0
    go_enter Try.func41, Try.ntmps41
    go_wp2_with fail
    go_ret
    exact ⟨rfl, bAl (bRef w) _⟩
  have d0 : decide (ways < 1) = false := decide_eq_false c0
  by_cases c1 : 8 < ways
  · have d1 : decide (8 < ways) = true := decide_eq_true c1
    clear h c0 c1
    go_enter Try.func41, Try.ntmps41
    go_wp2_with fail
    go_ret
    exact ⟨rfl, bAl (bRef w) _⟩
  have d1 : decide (8 < ways) = false := decide_eq_false c1
  by_cases c2 : every < 1
  · have d2 : decide (every < 1) = true := decide_eq_true c2
    clear h c0 c1 c2
    go_enter Try.func41, Try.ntmps41
    go_wp2_with fail
    go_ret
    exact ⟨rfl, bAl (bRef w) _⟩
  have d2 : decide (every < 1) = false := decide_eq_false c2
  by_cases c3 : 1099511627776 < every
  · have d3 : decide (1099511627776 < every) = true := decide_eq_true c3
    clear h c0 c1 c2 c3
    go_enter Try.func41, Try.ntmps41
    go_wp2_with fail
    go_ret
    exact ⟨rfl, bAl (bRef w) _⟩
  have d3 : decide (1099511627776 < every) = false := decide_eq_false c3
  by_cases c4 : limit < 0
  · have d4 : decide (limit < 0) = true := decide_eq_true c4
    clear h c0 c1 c2 c3 c4
    go_enter Try.func41, Try.ntmps41
    go_wp2_with fail
    go_ret
    exact ⟨rfl, bAl (bRef w) _⟩
  have d4 : decide (limit < 0) = false := decide_eq_false c4
  by_cases c5 : 1073741824 < limit
  · have d5 : decide (1073741824 < limit) = true := decide_eq_true c5
    clear h c0 c1 c2 c3 c4 c5
    go_enter Try.func41, Try.ntmps41
    go_wp2_with fail
    go_ret
    exact ⟨rfl, bAl (bRef w) _⟩
  have d5 : decide (1073741824 < limit) = false := decide_eq_false c5
  by_cases o1 : okQ w1 l1 r1
  · have o2 : ¬ okQ w2 l2 r2 := fun o2 => h ⟨⟨by omega, by omega⟩, ⟨by omega, by omega⟩, ⟨by omega, by omega⟩, o1, o2⟩
    have H1 := Lib.hid (fun W => qcheck_yes w1 l1 r1 W o1)
    have H2 := Lib.hid (fun W => qcheck_no w2 l2 r2 W o2)
    have ST : Hid True := Lib.hid trivial
    clear h o1 o2 c0 c1 c2 c3 c4 c5
    go_enter Try.func41, Try.ntmps41
    go_wp2_with (first
      | (go_at_call 18; (with_reducible refine (H1.out _).mono ?_); rintro e x1 ⟨rfl, hb⟩; clear ST; have HB1 := Lib.hid (bTr (bAl (bRef w) _) hb); obtain ⟨k0, k1, k2, k3, k4, k5, k6, k7, k8⟩ := (K0.out.below hb).cells; clear hb)
      | (go_at_call 18; (with_reducible refine (H2.out _).mono ?_); rintro e x2 ⟨rfl, hb⟩; have HB2 := Lib.hid (bTr HB1.out hb); clear hb))
    go_ret
    exact ⟨rfl, HB2.out⟩
  · have H1 := Lib.hid (fun W => qcheck_no w1 l1 r1 W o1)
    clear h o1 c0 c1 c2 c3 c4 c5
    go_enter Try.func41, Try.ntmps41
    go_wp2_with (go_at_call 18; (with_reducible refine (H1.out _).mono ?_); rintro e x1 ⟨rfl, hb⟩; have HB1 := Lib.hid (bTr (bAl (bRef w) _) hb); clear hb)
    go_ret
    exact ⟨rfl, HB1.out⟩
theorem mnew_no (ways w1 l1 r1 w2 l2 r2 every limit now : Int) (w : World) (h : ¬ okM ways w1 l1 r1 w2 l2 r2 every limit) : Calls Try.prog 28 #[MV ways w1 l1 r1 w2 l2 r2 every limit, .int .i64 now] w fun e w' => e = .returned (.tuple #[.pointer none, .int .i64 1]) ∧ Below w.heap.size w w' := by
  have HC := Lib.hid (fun W => mcheck_no ways w1 l1 r1 w2 l2 r2 every limit W h)
  clear h
  go_enter Try.func28, Try.ntmps28
  go_wp2_with (go_at_call 41; (with_reducible refine (HC.out _).mono ?_); rintro e x1 ⟨rfl, hb⟩; have HB := Lib.hid (bTr (bAl (bRef w) _) hb); clear hb)
  go_ret2
  exact ⟨rfl, HB.out⟩
theorem mnew_time (ways w1 l1 r1 w2 l2 r2 every limit now : Int) (w : World) (h : okM ways w1 l1 r1 w2 l2 r2 every limit) (hn : now < 0 ∨ 1099511627776 < now) : Calls Try.prog 28 #[MV ways w1 l1 r1 w2 l2 r2 every limit, .int .i64 now] w fun e w' => e = .returned (.tuple #[.pointer none, .int .i64 1]) ∧ Below w.heap.size w w' := by
  have HC := Lib.hid (fun W => mcheck_yes ways w1 l1 r1 w2 l2 r2 every limit W h)
  clear h
  by_cases h1 : now < 0
  · have d : decide (now < 0) = true := decide_eq_true h1
    clear hn h1
    go_enter Try.func28, Try.ntmps28
    go_wp2_with (go_at_call 41; (with_reducible refine (HC.out _).mono ?_); rintro e x1 ⟨rfl, hb⟩; have HB := Lib.hid (bTr (bAl (bRef w) _) hb); clear hb)
    go_ret2
    exact ⟨rfl, HB.out⟩
  · have d : decide (now < 0) = false := decide_eq_false h1
    have d2 : decide (1099511627776 < now) = true := decide_eq_true (by omega)
    clear hn h1
    go_enter Try.func28, Try.ntmps28
    go_wp2_with (go_at_call 41; (with_reducible refine (HC.out _).mono ?_); rintro e x1 ⟨rfl, hb⟩; have HB := Lib.hid (bTr (bAl (bRef w) _) hb); clear hb)
    go_ret2
    exact ⟨rfl, HB.out⟩

section
variable {w w' : World} {b lo hi : Nat} {m : MG}
theorem msilent_any (h : Mg w b lo hi m) : Calls Try.prog 32 #[.pointer (some ⟨b, 0, none⟩)] w fun e w' => e = .returned (.int .i64 m.silent) ∧ w' = w := by
  obtain ⟨g, cap, ba, bs, h⟩ := h
  have k6 := h.c.k6
  clear h
  go_enter Try.func32, Try.ntmps32
  go_wp2_with fail
  go_ret
  exact ⟨rfl, rfl⟩
theorem msilent_nil (w : World) : Calls Try.prog 32 #[.pointer none] w fun e w' => e = .returned (.int .i64 0) ∧ w' = w := by
  go_enter Try.func32, Try.ntmps32
  go_wp2_with fail
  go_ret
  exact ⟨rfl, rfl⟩
theorem mlook_nil (now : Int) (w : World) : Calls Try.prog 31 #[.pointer none, .int .i64 now] w fun e w' => e = .returned (.bool false) ∧ Below w.heap.size w w' := by
  go_enter Try.func31, Try.ntmps31
  go_wp2_with fail
  go_quiet (fail)
  go_wp2_with fail
  go_ret
  exact ⟨rfl, bDr (bRef w) _⟩
/-- Whether a look is due. -/
def MG.due (m : MG) (now : Int) : Prop := m.last + m.every ≤ now ∧ now ≤ 1099511627776
instance (m : MG) (now : Int) : Decidable (m.due now) := by unfold MG.due; infer_instance
def MG.looked (m : MG) (now : Int) : MG := { m with last := now, short := 0, silent := if m.limit < m.short then wrap64 (m.silent + 1) else m.silent }
theorem mlook_no (h : Mg w b lo hi m) (now : Int) (hs : -9223372036854775808 ≤ m.last + m.every ∧ m.last + m.every < 9223372036854775808) (hd : ¬ m.due now) : Calls Try.prog 31 #[.pointer (some ⟨b, 0, none⟩), .int .i64 now] w fun e w' => e = .returned (.bool false) ∧ Below w.heap.size w w' := by
  obtain ⟨g, cap, ba, bs, h⟩ := h
  obtain ⟨k0, k1, k2, k3, k4, k5, k6, f4, f5, f6⟩ := h.c
  have e1 : wrap64 (m.last + m.every) = m.last + m.every := by unfold wrap64; omega
  by_cases h1 : now < m.last + m.every
  · have d : decide (now < m.last + m.every) = true := decide_eq_true h1
    clear h hs hd h1
    go_enter Try.func31, Try.ntmps31
    go_wp2_with fail
    go_quiet (fail)
    go_wp2_with fail
    go_ret
    exact ⟨rfl, bDr (bRef w) _⟩
  · have d : decide (now < m.last + m.every) = false := decide_eq_false h1
    have d2 : decide (1099511627776 < now) = true := decide_eq_true (by
      rcases Int.lt_or_le 1099511627776 now with g | g
      · exact g
      · exact absurd ⟨by omega, g⟩ hd)
    clear h hs hd h1
    go_enter Try.func31, Try.ntmps31
    go_wp2_with fail
    go_quiet (fail)
    go_wp2_with fail
    go_ret
    exact ⟨rfl, bDr (bRef w) _⟩
set_option maxHeartbeats 1000000 in
theorem mlook_yes (h : Mg w b lo hi m) (now : Int) (hs : -9223372036854775808 ≤ m.last + m.every ∧ m.last + m.every < 9223372036854775808) (hd : m.due now) : Calls Try.prog 31 #[.pointer (some ⟨b, 0, none⟩), .int .i64 now] w fun e w' => e = .returned (.bool (decide (m.limit < m.short))) ∧ Mg w' b lo hi (m.looked now) ∧ ButI lo hi w w' := by
  obtain ⟨g, cap, ba, bs, h⟩ := h
  obtain ⟨k0, k1, k2, k3, k4, k5, k6, f4, f5, f6⟩ := h.c
  have e1 : wrap64 (m.last + m.every) = m.last + m.every := by unfold wrap64; omega
  obtain ⟨hd1, hd2⟩ := hd
  have d : decide (now < m.last + m.every) = false := decide_eq_false (by omega)
  have d2 : decide (1099511627776 < now) = false := decide_eq_false (by omega)
  have H := Lib.hid h
  unfold MG.looked
  clear h hs hd1 hd2
  by_cases h1 : m.limit < m.short
  · have d3 : decide (m.limit < m.short) = true := decide_eq_true h1
    rw [if_pos h1]
    clear h1
    go_enter Try.func31, Try.ntmps31
    go_wp2_with fail
    go_quiet (fail)
    go_wp2_with fail
    go_quiet (fail)
    go_wp2_with fail
    go_ret
    refine ⟨by rw [d3]; rfl, ?_, ?_⟩
    · exact (((H.out.drewN _).set4 now).set5 0).set6 _ |>.mg
    · exact (((ButI.of_below (bDr (bRef w) _)).trans ((H.out.drewN _).setB 4 _)).trans (((H.out.drewN _).set4 now).setB 5 _)).trans ((((H.out.drewN _).set4 now).set5 0).setB 6 _)
  · have d3 : decide (m.limit < m.short) = false := decide_eq_false h1
    rw [if_neg h1]
    clear h1
    go_enter Try.func31, Try.ntmps31
    go_wp2_with fail
    go_quiet (fail)
    go_wp2_with fail
    go_quiet (fail)
    go_wp2_with fail
    go_ret
    refine ⟨by rw [d3]; rfl, ?_, ?_⟩
    · exact ((H.out.drewN _).set4 now).set5 0 |>.mg
    · exact ((ButI.of_below (bDr (bRef w) _)).trans ((H.out.drewN _).setB 4 _)).trans (((H.out.drewN _).set4 now).setB 5 _)
/-- Counts. -/
theorem row4_set {w : World} {g : Nat} {t : TypeId} {z0 z1 z2 z3 : Value} (y0 y1 y2 y3 : Value) (h : w.heap[g]? = some (.cells #[z0, z1, z2, z3] t (0, 0))) : ((((w.setCell ⟨g, 0, none⟩ y0).setCell ⟨g, 1, none⟩ y1).setCell ⟨g, 2, none⟩ y2).setCell ⟨g, 3, none⟩ y3).heap[g]? = some (.cells #[y0, y1, y2, y3] t (0, 0)) := by
  have k0 := heap_setCell_same w g 0 _ _ y0 h
  have k1 := heap_setCell_same _ g 1 _ _ y1 k0
  have k2 := heap_setCell_same _ g 2 _ _ y2 k1
  exact heap_setCell_same _ g 3 _ _ y3 k2
theorem row4_cells {w : World} {g : Nat} {t : TypeId} {z0 z1 z2 z3 : Value} (h : w.heap[g]? = some (.cells #[z0, z1, z2, z3] t (0, 0))) : (w.cell? ⟨g, 0, none⟩ = some z0 ∧ w.cell? ⟨g, 1, none⟩ = some z1 ∧ w.cell? ⟨g, 2, none⟩ = some z2 ∧ w.cell? ⟨g, 3, none⟩ = some z3) ∧ (w.frozen? ⟨g, 0, none⟩ = false ∧ w.frozen? ⟨g, 1, none⟩ = false ∧ w.frozen? ⟨g, 2, none⟩ = false ∧ w.frozen? ⟨g, 3, none⟩ = false) :=
  ⟨⟨cell_of_row _ _ _ _ _ _ h, cell_of_row _ _ _ _ _ _ h, cell_of_row _ _ _ _ _ _ h, cell_of_row _ _ _ _ _ _ h⟩, frozen_of_row _ _ _ _ _ h, frozen_of_row _ _ _ _ _ h, frozen_of_row _ _ _ _ _ h, frozen_of_row _ _ _ _ _ h⟩
def MG.counts (m : MG) (k : Nat) : SQ := if k < m.n then m.ones k else m.all
theorem mcounts_nil (k : Int) (w : World) : Calls Try.prog 33 #[.pointer none, .int .i64 k] w fun e w' => e = .returned (C4 0 0 0 0) ∧ Below w.heap.size w w' := by
  go_enter Try.func33, Try.ntmps33
  go_wp2_with fail
  exact bodyPost_ret (results_cell_row rfl _ _ w.heap.size 34 _ (0, 0) _ rfl (heap_alloc_one' _ _) Try.underlying34 rfl (by kernel_rfl)) rfl ⟨rfl, bAl (bRef w) _⟩
set_option maxHeartbeats 1000000 in
theorem mcounts_none (h : Mg w b lo hi m) (k : Int) (hk : k < 0 ∨ (m.n : Int) < k) : Calls Try.prog 33 #[.pointer (some ⟨b, 0, none⟩), .int .i64 k] w fun e w' => e = .returned (C4 0 0 0 0) ∧ Below w.heap.size w w' := by
  obtain ⟨g, cap, ba, bs, h⟩ := h.alloc (.cells #[.int .i64 0, .int .i64 0, .int .i64 0, .int .i64 0] 34)
  have k2 := h.c.k2
  clear h
  by_cases h1 : k < 0
  · have d1 : decide (k < 0) = true := decide_eq_true h1
    clear hk h1
    go_enter Try.func33, Try.ntmps33
    go_wp2_with fail
    exact bodyPost_ret (results_cell_row rfl _ _ w.heap.size 34 _ (0, 0) _ rfl (heap_alloc_one' _ _) Try.underlying34 rfl (by kernel_rfl)) rfl ⟨rfl, bAl (bRef w) _⟩
  · have d1 : decide (k < 0) = false := decide_eq_false h1
    have d2 : decide ((m.n : Int) < k) = true := decide_eq_true (by omega)
    clear hk h1
    go_enter Try.func33, Try.ntmps33
    go_wp2_with fail
    exact bodyPost_ret (results_cell_row rfl _ _ w.heap.size 34 _ (0, 0) _ rfl (heap_alloc_one' _ _) Try.underlying34 rfl (by kernel_rfl)) rfl ⟨rfl, bAl (bRef w) _⟩
set_option maxHeartbeats 1000000 in
theorem mcounts_any (h : Mg w b lo hi m) (k : Nat) (hk : k ≤ m.n) : Calls Try.prog 33 #[.pointer (some ⟨b, 0, none⟩), .int .i64 (k : Int)] w fun e w' => e = .returned (C4 (m.counts k).c0 (m.counts k).c1 (m.counts k).c2 (m.counts k).c3) ∧ Below w.heap.size w w' := by
  obtain ⟨g, cap, ba, bs, h⟩ := h.alloc (.cells #[.int .i64 0, .int .i64 0, .int .i64 0, .int .i64 0] 34)
  have k2 := h.c.k2
  have k3 := h.c.k3
  have d1 : decide ((k : Int) < 0) = false := decide_eq_false (by omega)
  have d2 : decide ((m.n : Int) < (k : Int)) = false := decide_eq_false (by omega)
  unfold MG.counts
  rcases Nat.lt_or_ge k m.n with g1 | g1
  · rw [if_pos g1]
    have ka := h.at g1
    have d3 : ((k : Int) == (m.n : Int)) = false := by simp; omega
    have d4 : decide (k = m.n) = false := decide_eq_false (by omega)
    have i1 : (0 : Int) ≤ (k : Int) := by omega
    have i2 : (k : Int) < (m.n : Int) := by omega
    have HQ := Lib.hid (counts_any (h.ones k g1))
    clear h hk
    go_enter Try.func33, Try.ntmps33
    go_wp2_with (go_at_call 19; (with_reducible refine HQ.out.mono ?_); rintro e x1 ⟨rfl, hb⟩; have HB := Lib.hid hb; have hrow := (hb.block w.heap.size (by simp)).trans (heap_alloc_one' w _); have HRow := Lib.hid hrow; obtain ⟨⟨z0, z1, z2, z3⟩, y0, y1, y2, y3⟩ := row4_cells hrow; clear hb hrow)
    exact bodyPost_ret (results_cell_row rfl _ _ w.heap.size 34 _ (0, 0) _ rfl (row4_set _ _ _ _ HRow.out) Try.underlying34 rfl (by kernel_rfl)) rfl ⟨rfl, bSet (bSet (bSet (bSet (bTr (bAl (bRef w) _) HB.out) _ (Nat.le_refl _) _) _ (Nat.le_refl _) _) _ (Nat.le_refl _) _) _ (Nat.le_refl _) _⟩
  · obtain rfl : k = m.n := by omega
    rw [if_neg (by omega)]
    have HQ := Lib.hid (counts_any h.all)
    clear h hk
    go_enter Try.func33, Try.ntmps33
    go_wp2_with (go_at_call 19; (with_reducible refine HQ.out.mono ?_); rintro e x1 ⟨rfl, hb⟩; have HB := Lib.hid hb; have hrow := (hb.block w.heap.size (by simp)).trans (heap_alloc_one' w _); have HRow := Lib.hid hrow; obtain ⟨⟨z0, z1, z2, z3⟩, y0, y1, y2, y3⟩ := row4_cells hrow; clear hb hrow)
    exact bodyPost_ret (results_cell_row rfl _ _ w.heap.size 34 _ (0, 0) _ rfl (row4_set _ _ _ _ HRow.out) Try.underlying34 rfl (by kernel_rfl)) rfl ⟨rfl, bSet (bSet (bSet (bSet (bTr (bAl (bRef w) _) HB.out) _ (Nat.le_refl _) _) _ (Nat.le_refl _) _) _ (Nat.le_refl _) _) _ (Nat.le_refl _) _⟩
end

end Go.Proofs.Ytnkblihdgfhcdaa
