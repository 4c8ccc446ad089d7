/- MeterRuns: the reference's In where it refuses. Written by gen_mrin.py. -/
import Derived.Test.YtjkgeoipkcjobaaMrInB
namespace Go.Proofs.Ytjkgeoipkcjobaa
open Go.RowKit Go.Joins Go.Deep

set_option maxRecDepth 1000000 in
theorem rin_size_a {w : World} {m : MS} {pa pb : Addr} {na ca nb cb : Nat} (now size : Int) (y : Bool) (h : size < 0) : Calls Try.prog 16 #[.agg (rrow m (.slice (some pa) na ca) (.slice (some pb) nb cb)), .int .i64 now, .int .i64 size, .bool y] w fun e w' => e = .returned (.tuple #[.agg (rrow m (.slice (some pa) na ca) (.slice (some pb) nb cb)), .int .i64 2, .int .i64 1]) ∧ Below w.heap.size w w' := by
  have hM0 : ((w.alloc (.cells #[.int .i64 m.r, .int .i64 m.bu, .int .i64 m.mo, .int .i64 m.be, .bool m.cp, .bool m.aw, .bool m.sh, .int .i64 m.last, .slice (some pa) na ca, .slice (some pb) nb cb, .bool m.off] 39)).alloc (.cells #[.int .i64 0, .int .i64 0, .int .i64 0, .int .i64 0, .bool false, .bool false, .bool false, .int .i64 0, .slice none 0 0, .slice none 0 0, .bool false] 39)).heap[w.heap.size]? = some (.cells (rrow m (.slice (some pa) na ca) (.slice (some pb) nb cb)) 39 (0, 0)) := ((bAl (bRef (w.alloc (.cells #[.int .i64 m.r, .int .i64 m.bu, .int .i64 m.mo, .int .i64 m.be, .bool m.cp, .bool m.aw, .bool m.sh, .int .i64 m.last, .slice (some pa) na ca, .slice (some pb) nb cb, .bool m.off] 39))) _).block _ (by simp)).trans (heap_alloc_new w _)
  have hR0 : ((w.alloc (.cells #[.int .i64 m.r, .int .i64 m.bu, .int .i64 m.mo, .int .i64 m.be, .bool m.cp, .bool m.aw, .bool m.sh, .int .i64 m.last, .slice (some pa) na ca, .slice (some pb) nb cb, .bool m.off] 39)).alloc (.cells #[.int .i64 0, .int .i64 0, .int .i64 0, .int .i64 0, .bool false, .bool false, .bool false, .int .i64 0, .slice none 0 0, .slice none 0 0, .bool false] 39)).heap[w.heap.size + 1]? = some (.cells #[.int .i64 0, .int .i64 0, .int .i64 0, .int .i64 0, .bool false, .bool false, .bool false, .int .i64 0, .slice none 0 0, .slice none 0 0, .bool false] 39 (0, 0)) := by
    have := heap_alloc_new (w.alloc (.cells #[.int .i64 m.r, .int .i64 m.bu, .int .i64 m.mo, .int .i64 m.be, .bool m.cp, .bool m.aw, .bool m.sh, .int .i64 m.last, .slice (some pa) na ca, .slice (some pb) nb cb, .bool m.off] 39)) (.cells #[.int .i64 0, .int .i64 0, .int .i64 0, .int .i64 0, .bool false, .bool false, .bool false, .int .i64 0, .slice none 0 0, .slice none 0 0, .bool false] 39)
    rwa [show (w.alloc (.cells #[.int .i64 m.r, .int .i64 m.bu, .int .i64 m.mo, .int .i64 m.be, .bool m.cp, .bool m.aw, .bool m.sh, .int .i64 m.last, .slice (some pa) na ca, .slice (some pb) nb cb, .bool m.off] 39)).heap.size = w.heap.size + 1 by simp] at this
  have hB0 : Below w.heap.size w ((w.alloc (.cells #[.int .i64 m.r, .int .i64 m.bu, .int .i64 m.mo, .int .i64 m.be, .bool m.cp, .bool m.aw, .bool m.sh, .int .i64 m.last, .slice (some pa) na ca, .slice (some pb) nb cb, .bool m.off] 39)).alloc (.cells #[.int .i64 0, .int .i64 0, .int .i64 0, .int .i64 0, .bool false, .bool false, .bool false, .int .i64 0, .slice none 0 0, .slice none 0 0, .bool false] 39)) := bAl (bAl (bRef w) _) _
  have HM0 := Lib.hid hM0
  have HR0 := Lib.hid hR0
  have HB0 := Lib.hid hB0
  clear hM0 hR0 hB0
  have d : decide (size < 0) = true := decide_eq_true h
  clear h
  unfold rrow
  go_enter Try.func16, Try.ntmps16
  go_upto_region 2 with fail
  refine ri_ret2 (rb := w.heap.size + 1) HM0.out (by simp [rrow, Value.oneCell']) HR0.out rfl ?_
  rintro z W' rfl
  go_wp2_with fail
  refine bodyW3 rfl (w.heap.size + 1) (rrow m (.slice (some pa) na ca) (.slice (some pb) nb cb)) _ _ _ rfl rfl rfl (setRow_heap _ _ _ _ _ _ HR0.out) Try.underlying39 rfl (by kernel_rfl) rfl ?_
  exact ⟨rfl, bRow HB0.out _ (by omega) _⟩
set_option maxRecDepth 1000000 in
theorem rin_size_b {w : World} {m : MS} {pa pb : Addr} {na ca nb cb : Nat} (now size : Int) (y : Bool) (h1 : 1600 < size) : Calls Try.prog 16 #[.agg (rrow m (.slice (some pa) na ca) (.slice (some pb) nb cb)), .int .i64 now, .int .i64 size, .bool y] w fun e w' => e = .returned (.tuple #[.agg (rrow m (.slice (some pa) na ca) (.slice (some pb) nb cb)), .int .i64 2, .int .i64 1]) ∧ Below w.heap.size w w' := by
  have hM0 : ((w.alloc (.cells #[.int .i64 m.r, .int .i64 m.bu, .int .i64 m.mo, .int .i64 m.be, .bool m.cp, .bool m.aw, .bool m.sh, .int .i64 m.last, .slice (some pa) na ca, .slice (some pb) nb cb, .bool m.off] 39)).alloc (.cells #[.int .i64 0, .int .i64 0, .int .i64 0, .int .i64 0, .bool false, .bool false, .bool false, .int .i64 0, .slice none 0 0, .slice none 0 0, .bool false] 39)).heap[w.heap.size]? = some (.cells (rrow m (.slice (some pa) na ca) (.slice (some pb) nb cb)) 39 (0, 0)) := ((bAl (bRef (w.alloc (.cells #[.int .i64 m.r, .int .i64 m.bu, .int .i64 m.mo, .int .i64 m.be, .bool m.cp, .bool m.aw, .bool m.sh, .int .i64 m.last, .slice (some pa) na ca, .slice (some pb) nb cb, .bool m.off] 39))) _).block _ (by simp)).trans (heap_alloc_new w _)
  have hR0 : ((w.alloc (.cells #[.int .i64 m.r, .int .i64 m.bu, .int .i64 m.mo, .int .i64 m.be, .bool m.cp, .bool m.aw, .bool m.sh, .int .i64 m.last, .slice (some pa) na ca, .slice (some pb) nb cb, .bool m.off] 39)).alloc (.cells #[.int .i64 0, .int .i64 0, .int .i64 0, .int .i64 0, .bool false, .bool false, .bool false, .int .i64 0, .slice none 0 0, .slice none 0 0, .bool false] 39)).heap[w.heap.size + 1]? = some (.cells #[.int .i64 0, .int .i64 0, .int .i64 0, .int .i64 0, .bool false, .bool false, .bool false, .int .i64 0, .slice none 0 0, .slice none 0 0, .bool false] 39 (0, 0)) := by
    have := heap_alloc_new (w.alloc (.cells #[.int .i64 m.r, .int .i64 m.bu, .int .i64 m.mo, .int .i64 m.be, .bool m.cp, .bool m.aw, .bool m.sh, .int .i64 m.last, .slice (some pa) na ca, .slice (some pb) nb cb, .bool m.off] 39)) (.cells #[.int .i64 0, .int .i64 0, .int .i64 0, .int .i64 0, .bool false, .bool false, .bool false, .int .i64 0, .slice none 0 0, .slice none 0 0, .bool false] 39)
    rwa [show (w.alloc (.cells #[.int .i64 m.r, .int .i64 m.bu, .int .i64 m.mo, .int .i64 m.be, .bool m.cp, .bool m.aw, .bool m.sh, .int .i64 m.last, .slice (some pa) na ca, .slice (some pb) nb cb, .bool m.off] 39)).heap.size = w.heap.size + 1 by simp] at this
  have hB0 : Below w.heap.size w ((w.alloc (.cells #[.int .i64 m.r, .int .i64 m.bu, .int .i64 m.mo, .int .i64 m.be, .bool m.cp, .bool m.aw, .bool m.sh, .int .i64 m.last, .slice (some pa) na ca, .slice (some pb) nb cb, .bool m.off] 39)).alloc (.cells #[.int .i64 0, .int .i64 0, .int .i64 0, .int .i64 0, .bool false, .bool false, .bool false, .int .i64 0, .slice none 0 0, .slice none 0 0, .bool false] 39)) := bAl (bAl (bRef w) _) _
  have HM0 := Lib.hid hM0
  have HR0 := Lib.hid hR0
  have HB0 := Lib.hid hB0
  clear hM0 hR0 hB0
  have d : decide (size < 0) = false := decide_eq_false (by omega)
  have d2 : decide (1600 < size) = true := decide_eq_true h1
  clear h1
  unfold rrow
  go_enter Try.func16, Try.ntmps16
  go_upto_region 2 with fail
  refine ri_ret2 (rb := w.heap.size + 1) HM0.out (by simp [rrow, Value.oneCell']) HR0.out rfl ?_
  rintro z W' rfl
  go_wp2_with fail
  refine bodyW3 rfl (w.heap.size + 1) (rrow m (.slice (some pa) na ca) (.slice (some pb) nb cb)) _ _ _ rfl rfl rfl (setRow_heap _ _ _ _ _ _ HR0.out) Try.underlying39 rfl (by kernel_rfl) rfl ?_
  exact ⟨rfl, bRow HB0.out _ (by omega) _⟩
theorem rin_size {w : World} {m : MS} {pa pb : Addr} {na ca nb cb : Nat} (now size : Int) (y : Bool) (hs : size < 0 ∨ 1600 < size) : Calls Try.prog 16 #[.agg (rrow m (.slice (some pa) na ca) (.slice (some pb) nb cb)), .int .i64 now, .int .i64 size, .bool y] w fun e w' => e = .returned (.tuple #[.agg (rrow m (.slice (some pa) na ca) (.slice (some pb) nb cb)), .int .i64 2, .int .i64 1]) ∧ Below w.heap.size w w' := by
  by_cases h : size < 0
  · exact rin_size_a now size y h
  · exact rin_size_b now size y (by omega)
set_option maxRecDepth 1000000 in
theorem rin_order {w : World} {m : MS} {pa pb : Addr} {na ca nb cb : Nat} (now size : Int) (y : Bool) (h0 : 0 ≤ size) (h1 : size ≤ 1600) (h2 : now < m.last) : Calls Try.prog 16 #[.agg (rrow m (.slice (some pa) na ca) (.slice (some pb) nb cb)), .int .i64 now, .int .i64 size, .bool y] w fun e w' => e = .returned (.tuple #[.agg (rrow m (.slice (some pa) na ca) (.slice (some pb) nb cb)), .int .i64 2, .int .i64 31]) ∧ Below w.heap.size w w' := by
  have hM0 : ((w.alloc (.cells #[.int .i64 m.r, .int .i64 m.bu, .int .i64 m.mo, .int .i64 m.be, .bool m.cp, .bool m.aw, .bool m.sh, .int .i64 m.last, .slice (some pa) na ca, .slice (some pb) nb cb, .bool m.off] 39)).alloc (.cells #[.int .i64 0, .int .i64 0, .int .i64 0, .int .i64 0, .bool false, .bool false, .bool false, .int .i64 0, .slice none 0 0, .slice none 0 0, .bool false] 39)).heap[w.heap.size]? = some (.cells (rrow m (.slice (some pa) na ca) (.slice (some pb) nb cb)) 39 (0, 0)) := ((bAl (bRef (w.alloc (.cells #[.int .i64 m.r, .int .i64 m.bu, .int .i64 m.mo, .int .i64 m.be, .bool m.cp, .bool m.aw, .bool m.sh, .int .i64 m.last, .slice (some pa) na ca, .slice (some pb) nb cb, .bool m.off] 39))) _).block _ (by simp)).trans (heap_alloc_new w _)
  have hR0 : ((w.alloc (.cells #[.int .i64 m.r, .int .i64 m.bu, .int .i64 m.mo, .int .i64 m.be, .bool m.cp, .bool m.aw, .bool m.sh, .int .i64 m.last, .slice (some pa) na ca, .slice (some pb) nb cb, .bool m.off] 39)).alloc (.cells #[.int .i64 0, .int .i64 0, .int .i64 0, .int .i64 0, .bool false, .bool false, .bool false, .int .i64 0, .slice none 0 0, .slice none 0 0, .bool false] 39)).heap[w.heap.size + 1]? = some (.cells #[.int .i64 0, .int .i64 0, .int .i64 0, .int .i64 0, .bool false, .bool false, .bool false, .int .i64 0, .slice none 0 0, .slice none 0 0, .bool false] 39 (0, 0)) := by
    have := heap_alloc_new (w.alloc (.cells #[.int .i64 m.r, .int .i64 m.bu, .int .i64 m.mo, .int .i64 m.be, .bool m.cp, .bool m.aw, .bool m.sh, .int .i64 m.last, .slice (some pa) na ca, .slice (some pb) nb cb, .bool m.off] 39)) (.cells #[.int .i64 0, .int .i64 0, .int .i64 0, .int .i64 0, .bool false, .bool false, .bool false, .int .i64 0, .slice none 0 0, .slice none 0 0, .bool false] 39)
    rwa [show (w.alloc (.cells #[.int .i64 m.r, .int .i64 m.bu, .int .i64 m.mo, .int .i64 m.be, .bool m.cp, .bool m.aw, .bool m.sh, .int .i64 m.last, .slice (some pa) na ca, .slice (some pb) nb cb, .bool m.off] 39)).heap.size = w.heap.size + 1 by simp] at this
  have hB0 : Below w.heap.size w ((w.alloc (.cells #[.int .i64 m.r, .int .i64 m.bu, .int .i64 m.mo, .int .i64 m.be, .bool m.cp, .bool m.aw, .bool m.sh, .int .i64 m.last, .slice (some pa) na ca, .slice (some pb) nb cb, .bool m.off] 39)).alloc (.cells #[.int .i64 0, .int .i64 0, .int .i64 0, .int .i64 0, .bool false, .bool false, .bool false, .int .i64 0, .slice none 0 0, .slice none 0 0, .bool false] 39)) := bAl (bAl (bRef w) _) _
  have HM0 := Lib.hid hM0
  have HR0 := Lib.hid hR0
  have HB0 := Lib.hid hB0
  clear hM0 hR0 hB0
  have d : decide (size < 0) = false := decide_eq_false (by omega)
  have d2 : decide (1600 < size) = false := decide_eq_false (by omega)
  have d3 : decide (now < m.last) = true := decide_eq_true h2
  clear h0 h1 h2
  unfold rrow
  go_enter Try.func16, Try.ntmps16
  go_upto_region 4 with fail
  refine ri_ret4 (rb := w.heap.size + 1) HM0.out (by simp [rrow, Value.oneCell']) HR0.out rfl ?_
  rintro z W' rfl
  go_wp2_with fail
  refine bodyW3 rfl (w.heap.size + 1) (rrow m (.slice (some pa) na ca) (.slice (some pb) nb cb)) _ _ _ rfl rfl rfl (setRow_heap _ _ _ _ _ _ HR0.out) Try.underlying39 rfl (by kernel_rfl) rfl ?_
  exact ⟨rfl, bRow HB0.out _ (by omega) _⟩
set_option maxRecDepth 1000000 in
theorem rin_late {w : World} {m : MS} {pa pb : Addr} {na ca nb cb : Nat} (now size : Int) (y : Bool) (h0 : 0 ≤ size) (h1 : size ≤ 1600) (h2 : m.last ≤ now) (h3 : 1099511627776 < now) : Calls Try.prog 16 #[.agg (rrow m (.slice (some pa) na ca) (.slice (some pb) nb cb)), .int .i64 now, .int .i64 size, .bool y] w fun e w' => e = .returned (.tuple #[.agg (rrow m (.slice (some pa) na ca) (.slice (some pb) nb cb)), .int .i64 2, .int .i64 1]) ∧ Below w.heap.size w w' := by
  have hM0 : ((w.alloc (.cells #[.int .i64 m.r, .int .i64 m.bu, .int .i64 m.mo, .int .i64 m.be, .bool m.cp, .bool m.aw, .bool m.sh, .int .i64 m.last, .slice (some pa) na ca, .slice (some pb) nb cb, .bool m.off] 39)).alloc (.cells #[.int .i64 0, .int .i64 0, .int .i64 0, .int .i64 0, .bool false, .bool false, .bool false, .int .i64 0, .slice none 0 0, .slice none 0 0, .bool false] 39)).heap[w.heap.size]? = some (.cells (rrow m (.slice (some pa) na ca) (.slice (some pb) nb cb)) 39 (0, 0)) := ((bAl (bRef (w.alloc (.cells #[.int .i64 m.r, .int .i64 m.bu, .int .i64 m.mo, .int .i64 m.be, .bool m.cp, .bool m.aw, .bool m.sh, .int .i64 m.last, .slice (some pa) na ca, .slice (some pb) nb cb, .bool m.off] 39))) _).block _ (by simp)).trans (heap_alloc_new w _)
  have hR0 : ((w.alloc (.cells #[.int .i64 m.r, .int .i64 m.bu, .int .i64 m.mo, .int .i64 m.be, .bool m.cp, .bool m.aw, .bool m.sh, .int .i64 m.last, .slice (some pa) na ca, .slice (some pb) nb cb, .bool m.off] 39)).alloc (.cells #[.int .i64 0, .int .i64 0, .int .i64 0, .int .i64 0, .bool false, .bool false, .bool false, .int .i64 0, .slice none 0 0, .slice none 0 0, .bool false] 39)).heap[w.heap.size + 1]? = some (.cells #[.int .i64 0, .int .i64 0, .int .i64 0, .int .i64 0, .bool false, .bool false, .bool false, .int .i64 0, .slice none 0 0, .slice none 0 0, .bool false] 39 (0, 0)) := by
    have := heap_alloc_new (w.alloc (.cells #[.int .i64 m.r, .int .i64 m.bu, .int .i64 m.mo, .int .i64 m.be, .bool m.cp, .bool m.aw, .bool m.sh, .int .i64 m.last, .slice (some pa) na ca, .slice (some pb) nb cb, .bool m.off] 39)) (.cells #[.int .i64 0, .int .i64 0, .int .i64 0, .int .i64 0, .bool false, .bool false, .bool false, .int .i64 0, .slice none 0 0, .slice none 0 0, .bool false] 39)
    rwa [show (w.alloc (.cells #[.int .i64 m.r, .int .i64 m.bu, .int .i64 m.mo, .int .i64 m.be, .bool m.cp, .bool m.aw, .bool m.sh, .int .i64 m.last, .slice (some pa) na ca, .slice (some pb) nb cb, .bool m.off] 39)).heap.size = w.heap.size + 1 by simp] at this
  have hB0 : Below w.heap.size w ((w.alloc (.cells #[.int .i64 m.r, .int .i64 m.bu, .int .i64 m.mo, .int .i64 m.be, .bool m.cp, .bool m.aw, .bool m.sh, .int .i64 m.last, .slice (some pa) na ca, .slice (some pb) nb cb, .bool m.off] 39)).alloc (.cells #[.int .i64 0, .int .i64 0, .int .i64 0, .int .i64 0, .bool false, .bool false, .bool false, .int .i64 0, .slice none 0 0, .slice none 0 0, .bool false] 39)) := bAl (bAl (bRef w) _) _
  have HM0 := Lib.hid hM0
  have HR0 := Lib.hid hR0
  have HB0 := Lib.hid hB0
  clear hM0 hR0 hB0
  have d : decide (size < 0) = false := decide_eq_false (by omega)
  have d2 : decide (1600 < size) = false := decide_eq_false (by omega)
  have d3 : decide (now < m.last) = false := decide_eq_false (by omega)
  have d4 : decide (1099511627776 < now) = true := decide_eq_true h3
  clear h0 h1 h2 h3
  unfold rrow
  go_enter Try.func16, Try.ntmps16
  go_upto_region 6 with fail
  refine ri_ret6 (rb := w.heap.size + 1) HM0.out (by simp [rrow, Value.oneCell']) HR0.out rfl ?_
  rintro z W' rfl
  go_wp2_with fail
  refine bodyW3 rfl (w.heap.size + 1) (rrow m (.slice (some pa) na ca) (.slice (some pb) nb cb)) _ _ _ rfl rfl rfl (setRow_heap _ _ _ _ _ _ HR0.out) Try.underlying39 rfl (by kernel_rfl) rfl ?_
  exact ⟨rfl, bRow HB0.out _ (by omega) _⟩

end Go.Proofs.Ytjkgeoipkcjobaa
