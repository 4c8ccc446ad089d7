/- What package wide's numbers come to as ints. -/
import Derived.Test.YtfeoppbincldfaaWide
namespace Go.Proofs.Ytfeoppbincldfaa
open Go.RowKit

theorem wSigned_over_false (hi lo : Int) (h : 0 < hi ∨ hi = 0 ∧ 9223372036854775807 < lo) (w : World) :
    Calls Try.prog 109 #[.agg #[.int .u64 hi, .int .u64 lo], .bool false] w fun e w' =>
      e = .returned (.tuple #[.int .i64 0, .int .i64 10]) ∧ Below w.heap.size w w' := by
  have hc := fun W => wCmp_gt hi lo 0 9223372036854775807 (by omega) W
  have HC := Lib.hid hc
  clear hc
  go_enter Try.func109, Try.ntmps109
  go_wp2
  go_region_held3 (fun w' => w'.cell? ⟨w.heap.size, 0, none⟩ = some (.int .u64 hi) ∧ w'.cell? ⟨w.heap.size, 1, none⟩ = some (.int .u64 lo) ∧ Below w.heap.size w w' ∧ w.heap.size + 1 ≤ w'.heap.size)
    (first | (refine ⟨?_, ?_, ?_, ?_⟩ <;> first | go_keep | exact (bAl (bRef w) _).drew) | (go_split_ands; refine ⟨?_, ?_, ?_, ?_⟩ <;> first | assumption | exact (hb1.cell (by first | (simp; done) | (simp; omega) | (simp only []; omega))).trans (by assumption) | exact Below.trans (by assumption) (hb1.mono (by first | (simp; done) | (simp; omega) | omega)) | (have := hb1.size; simp at this; omega) | exact (hb2.cell (by first | (simp; done) | (simp; omega) | (simp only []; omega))).trans (by assumption) | exact Below.trans (by assumption) (hb2.mono (by first | (simp; done) | (simp; omega) | omega)) | (have := hb2.size; omega)))
    (first | (go_at_call 108; refine (wOf _ _).mono ?_; rintro e w1 ⟨rfl, hb1⟩) | (go_at_call 127; refine (HC.out _).mono ?_; rintro e w2 ⟨rfl, hb2⟩))
  go_split_ands
  go_wp2
  go_ret2
  exact ⟨rfl, by assumption⟩

theorem wSigned_lt_false (lo : Int) (h0 : 0 ≤ lo) (h : lo < 9223372036854775807) (w : World) :
    Calls Try.prog 109 #[.agg #[.int .u64 0, .int .u64 lo], .bool false] w fun e w' =>
      e = .returned (.tuple #[.int .i64 lo, .int .i64 0]) ∧ Below w.heap.size w w' := by
  have hc := fun W => wCmp_lt 0 lo 0 9223372036854775807 (by omega) W
  have HC := Lib.hid hc
  clear hc
  go_enter Try.func109, Try.ntmps109
  go_wp2
  go_region_held3 (fun w' => w'.cell? ⟨w.heap.size, 0, none⟩ = some (.int .u64 0) ∧ w'.cell? ⟨w.heap.size, 1, none⟩ = some (.int .u64 lo) ∧ Below w.heap.size w w' ∧ w.heap.size + 1 ≤ w'.heap.size)
    (first | (refine ⟨?_, ?_, ?_, ?_⟩ <;> first | go_keep | exact (bAl (bRef w) _).drew) | (go_split_ands; refine ⟨?_, ?_, ?_, ?_⟩ <;> first | assumption | exact (hb1.cell (by first | (simp; done) | (simp; omega) | (simp only []; omega))).trans (by assumption) | exact Below.trans (by assumption) (hb1.mono (by first | (simp; done) | (simp; omega) | omega)) | (have := hb1.size; simp at this; omega) | exact (hb2.cell (by first | (simp; done) | (simp; omega) | (simp only []; omega))).trans (by assumption) | exact Below.trans (by assumption) (hb2.mono (by first | (simp; done) | (simp; omega) | omega)) | (have := hb2.size; omega)))
    (first | (go_at_call 108; refine (wOf _ _).mono ?_; rintro e w1 ⟨rfl, hb1⟩) | (go_at_call 127; refine (HC.out _).mono ?_; rintro e w2 ⟨rfl, hb2⟩))
  go_split_ands
  go_wp2
  go_ret2
  exact ⟨ret_ii (by first | rfl | (unfold wrap64; omega)) rfl, by assumption⟩

theorem wSigned_eq_false (w : World) :
    Calls Try.prog 109 #[.agg #[.int .u64 0, .int .u64 9223372036854775807], .bool false] w fun e w' =>
      e = .returned (.tuple #[.int .i64 9223372036854775807, .int .i64 0]) ∧ Below w.heap.size w w' := by
  have hc := fun W => wCmp_eq 0 9223372036854775807 W
  have HC := Lib.hid hc
  clear hc
  go_enter Try.func109, Try.ntmps109
  go_wp2
  go_region_held3 (fun w' => w'.cell? ⟨w.heap.size, 0, none⟩ = some (.int .u64 0) ∧ w'.cell? ⟨w.heap.size, 1, none⟩ = some (.int .u64 9223372036854775807) ∧ Below w.heap.size w w' ∧ w.heap.size + 1 ≤ w'.heap.size)
    (first | (refine ⟨?_, ?_, ?_, ?_⟩ <;> first | go_keep | exact (bAl (bRef w) _).drew) | (go_split_ands; refine ⟨?_, ?_, ?_, ?_⟩ <;> first | assumption | exact (hb1.cell (by first | (simp; done) | (simp; omega) | (simp only []; omega))).trans (by assumption) | exact Below.trans (by assumption) (hb1.mono (by first | (simp; done) | (simp; omega) | omega)) | (have := hb1.size; simp at this; omega) | exact (hb2.cell (by first | (simp; done) | (simp; omega) | (simp only []; omega))).trans (by assumption) | exact Below.trans (by assumption) (hb2.mono (by first | (simp; done) | (simp; omega) | omega)) | (have := hb2.size; omega)))
    (first | (go_at_call 108; refine (wOf _ _).mono ?_; rintro e w1 ⟨rfl, hb1⟩) | (go_at_call 127; refine (HC.out _).mono ?_; rintro e w2 ⟨rfl, hb2⟩))
  go_split_ands
  go_wp2
  go_ret2
  exact ⟨ret_ii (by first | rfl | (unfold wrap64; omega)) rfl, by assumption⟩

theorem wSigned_over_true (hi lo : Int) (h : 0 < hi ∨ hi = 0 ∧ 9223372036854775808 < lo) (w : World) :
    Calls Try.prog 109 #[.agg #[.int .u64 hi, .int .u64 lo], .bool true] w fun e w' =>
      e = .returned (.tuple #[.int .i64 0, .int .i64 10]) ∧ Below w.heap.size w w' := by
  have hc := fun W => wCmp_gt hi lo 0 9223372036854775808 (by omega) W
  have HC := Lib.hid hc
  clear hc
  go_enter Try.func109, Try.ntmps109
  go_wp2
  go_region_held3 (fun w' => w'.cell? ⟨w.heap.size, 0, none⟩ = some (.int .u64 hi) ∧ w'.cell? ⟨w.heap.size, 1, none⟩ = some (.int .u64 lo) ∧ Below w.heap.size w w' ∧ w.heap.size + 1 ≤ w'.heap.size)
    (first | (refine ⟨?_, ?_, ?_, ?_⟩ <;> first | go_keep | exact (bAl (bRef w) _).drew) | (go_split_ands; refine ⟨?_, ?_, ?_, ?_⟩ <;> first | assumption | exact (hb1.cell (by first | (simp; done) | (simp; omega) | (simp only []; omega))).trans (by assumption) | exact Below.trans (by assumption) (hb1.mono (by first | (simp; done) | (simp; omega) | omega)) | (have := hb1.size; simp at this; omega) | exact (hb2.cell (by first | (simp; done) | (simp; omega) | (simp only []; omega))).trans (by assumption) | exact Below.trans (by assumption) (hb2.mono (by first | (simp; done) | (simp; omega) | omega)) | (have := hb2.size; omega)))
    (first | (go_at_call 108; refine (wOf _ _).mono ?_; rintro e w1 ⟨rfl, hb1⟩) | (go_at_call 127; refine (HC.out _).mono ?_; rintro e w2 ⟨rfl, hb2⟩))
  go_split_ands
  go_wp2
  go_ret2
  exact ⟨rfl, by assumption⟩

theorem wSigned_lt_true (lo : Int) (h0 : 0 ≤ lo) (h : lo < 9223372036854775808) (w : World) :
    Calls Try.prog 109 #[.agg #[.int .u64 0, .int .u64 lo], .bool true] w fun e w' =>
      e = .returned (.tuple #[.int .i64 (-lo), .int .i64 0]) ∧ Below w.heap.size w w' := by
  have hc := fun W => wCmp_lt 0 lo 0 9223372036854775808 (by omega) W
  have HC := Lib.hid hc
  clear hc
  go_enter Try.func109, Try.ntmps109
  go_wp2
  go_region_held3 (fun w' => w'.cell? ⟨w.heap.size, 0, none⟩ = some (.int .u64 0) ∧ w'.cell? ⟨w.heap.size, 1, none⟩ = some (.int .u64 lo) ∧ Below w.heap.size w w' ∧ w.heap.size + 1 ≤ w'.heap.size)
    (first | (refine ⟨?_, ?_, ?_, ?_⟩ <;> first | go_keep | exact (bAl (bRef w) _).drew) | (go_split_ands; refine ⟨?_, ?_, ?_, ?_⟩ <;> first | assumption | exact (hb1.cell (by first | (simp; done) | (simp; omega) | (simp only []; omega))).trans (by assumption) | exact Below.trans (by assumption) (hb1.mono (by first | (simp; done) | (simp; omega) | omega)) | (have := hb1.size; simp at this; omega) | exact (hb2.cell (by first | (simp; done) | (simp; omega) | (simp only []; omega))).trans (by assumption) | exact Below.trans (by assumption) (hb2.mono (by first | (simp; done) | (simp; omega) | omega)) | (have := hb2.size; omega)))
    (first | (go_at_call 108; refine (wOf _ _).mono ?_; rintro e w1 ⟨rfl, hb1⟩) | (go_at_call 127; refine (HC.out _).mono ?_; rintro e w2 ⟨rfl, hb2⟩))
  go_split_ands
  go_wp2
  go_ret2
  exact ⟨ret_ii (by simp only [IntKind.wrap_u64]; unfold wrap64; omega) rfl, by assumption⟩

theorem wSigned_eq_true (w : World) :
    Calls Try.prog 109 #[.agg #[.int .u64 0, .int .u64 9223372036854775808], .bool true] w fun e w' =>
      e = .returned (.tuple #[.int .i64 (-9223372036854775808), .int .i64 0]) ∧ Below w.heap.size w w' := by
  have hc := fun W => wCmp_eq 0 9223372036854775808 W
  have HC := Lib.hid hc
  clear hc
  go_enter Try.func109, Try.ntmps109
  go_wp2
  go_region_held3 (fun w' => w'.cell? ⟨w.heap.size, 0, none⟩ = some (.int .u64 0) ∧ w'.cell? ⟨w.heap.size, 1, none⟩ = some (.int .u64 9223372036854775808) ∧ Below w.heap.size w w' ∧ w.heap.size + 1 ≤ w'.heap.size)
    (first | (refine ⟨?_, ?_, ?_, ?_⟩ <;> first | go_keep | exact (bAl (bRef w) _).drew) | (go_split_ands; refine ⟨?_, ?_, ?_, ?_⟩ <;> first | assumption | exact (hb1.cell (by first | (simp; done) | (simp; omega) | (simp only []; omega))).trans (by assumption) | exact Below.trans (by assumption) (hb1.mono (by first | (simp; done) | (simp; omega) | omega)) | (have := hb1.size; simp at this; omega) | exact (hb2.cell (by first | (simp; done) | (simp; omega) | (simp only []; omega))).trans (by assumption) | exact Below.trans (by assumption) (hb2.mono (by first | (simp; done) | (simp; omega) | omega)) | (have := hb2.size; omega)))
    (first | (go_at_call 108; refine (wOf _ _).mono ?_; rintro e w1 ⟨rfl, hb1⟩) | (go_at_call 127; refine (HC.out _).mono ?_; rintro e w2 ⟨rfl, hb2⟩))
  go_split_ands
  go_wp2
  go_ret2
  exact ⟨ret_ii (by simp only [IntKind.wrap_u64]; unfold wrap64; omega) rfl, by assumption⟩

end Go.Proofs.Ytfeoppbincldfaa
