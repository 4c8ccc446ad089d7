/- The reference's: which numbers a kind has, how many bytes each. -/
import Derived.Test.YtcdcklkbjfhhnaaPtRef1
namespace Go.Proofs.Ytcdcklkbjfhhnaa
open Go.RowKit Go.Joins

theorem Try.infoP : (Try.prog.info? 58).map (fun i => (i.zero, i.size, i.bytes)) = some (some (.agg #[.int .i64 0, .int .i64 0]), 2, 16) := by kernel_rfl
def pv (ps : List (Nat × Nat)) : List Value := ps.flatMap fun p => [.int .i64 (p.1 : Int), .int .i64 (p.2 : Int)]
/-- Pairs in a row of their own. -/
def PRow (W : World) (g : Nat) (ps : List (Nat × Nat)) : Prop := ∃ cs fr, W.heap[g]? = some (.cells cs 58 fr) ∧ ∀ j, j < ps.length → cs[2 * j]? = some (.int .i64 ((ps.getD j (0, 0)).1 : Int)) ∧ cs[2 * j + 1]? = some (.int .i64 ((ps.getD j (0, 0)).2 : Int))
theorem PRow.below {W W' : World} {g : Nat} {ps : List (Nat × Nat)} (h : PRow W g ps) (hb : Below W.heap.size W W') : PRow W' g ps := by
  obtain ⟨cs, fr, hg, hc⟩ := h
  refine ⟨cs, fr, ?_, hc⟩
  rw [hb.block g (by rcases Nat.lt_or_ge g W.heap.size with h | h; exact h; rw [Array.getElem?_eq_none h] at hg; cases hg), hg]
theorem pv_at (ps : List (Nat × Nat)) (j : Nat) (h : j < ps.length) : (pv ps)[2 * j]? = some (.int .i64 ((ps.getD j (0, 0)).1 : Int)) ∧ (pv ps)[2 * j + 1]? = some (.int .i64 ((ps.getD j (0, 0)).2 : Int)) := by
  induction ps generalizing j with
  | nil => simp at h
  | cons p ps ih =>
    cases j with
    | zero => exact ⟨rfl, rfl⟩
    | succ j =>
      have := ih j (by simpa using h)
      have e1 : pv (p :: ps) = .int .i64 (p.1 : Int) :: .int .i64 (p.2 : Int) :: pv ps := rfl
      rw [e1, show 2 * (j + 1) = 2 * j + 1 + 1 by omega, show 2 * j + 1 + 1 + 1 = 2 * j + 1 + 1 + 1 from rfl]
      simp only [List.getElem?_cons_succ, List.getD_cons_succ]
      exact this
theorem pv_len (ps : List (Nat × Nat)) : (pv ps).length = 2 * ps.length := by
  induction ps with
  | nil => rfl
  | cons p ps ih => show (pv ps).length + 2 = _; rw [ih, List.length_cons]; omega
theorem PRow.of {W : World} {B : Nat} {v : Value} {n : Nat} {ps : List (Nat × Nat)} (h : W.ownsRow B 58 2 v n (pv ps)) (hn : n = ps.length) (h0 : 0 < n) : ∃ g c, v = .slice (some ⟨g, 0, none⟩) ps.length c ∧ PRow W g ps := by
  subst hn
  rcases h.2 with ⟨_, hz⟩ | ⟨g, cap, cur, rfl, _, hg, hn, _, hs, ht⟩
  · omega
  · refine ⟨g, cap, rfl, cur, _, hg, fun j hj => ?_⟩
    have := pv_at ps j hj
    rw [← ht] at this
    have key : ∀ i, i < ps.length * 2 → (cur.toList.take (ps.length * 2))[i]? = cur[i]? := fun i hi => by rw [List.getElem?_take, if_pos hi, Array.getElem?_toList]
    rw [key _ (by omega), key _ (by omega)] at this
    exact this
def FldPost (w : World) (ps : List (Nat × Nat)) (ok : Bool) (e : Ending) (w' : World) : Prop := ∃ g c, e = .returned (.tuple #[.slice (some ⟨g, 0, none⟩) ps.length c, .bool ok]) ∧ PRow w' g ps ∧ Below w.heap.size w w'
theorem row5 (w : World) : (w.alloc (.cells #[.int .i64 1, .int .i64 1, .int .i64 2, .int .i64 2, .int .i64 3, .int .i64 6, .int .i64 4, .int .i64 2, .int .i64 5, .int .i64 8] 58)).ownsRow w.heap.size 58 2 (.slice (some ⟨w.heap.size, 0, none⟩) 5 5) 5 (pv [(1, 1), (2, 2), (3, 6), (4, 2), (5, 8)]) :=
  ⟨rfl, .inr ⟨w.heap.size, 5, _, rfl, Nat.le_refl _, heap_alloc_new w _, Nat.le_refl _, by decide, rfl, rfl⟩⟩
theorem row5_alloc (w : World) (o : Obj) : ((w.alloc (.cells #[.int .i64 1, .int .i64 1, .int .i64 2, .int .i64 2, .int .i64 3, .int .i64 6, .int .i64 4, .int .i64 2, .int .i64 5, .int .i64 8] 58)).alloc o).ownsRow w.heap.size 58 2 (.slice (some ⟨w.heap.size, 0, none⟩) 5 5) 5 (pv [(1, 1), (2, 2), (3, 6), (4, 2), (5, 8)]) :=
  ⟨rfl, .inr ⟨w.heap.size, 5, _, rfl, Nat.le_refl _, heap_alloc2_old w _ _, Nat.le_refl _, by decide, rfl, rfl⟩⟩
theorem pv_one (ps : List (Nat × Nat)) : ∀ u ∈ pv ps, u.oneCell' = true := by
  intro u hu
  simp only [pv, List.mem_flatMap, List.mem_cons, List.not_mem_nil, or_false] at hu
  obtain ⟨p, _, rfl | rfl⟩ := hu <;> rfl

set_option maxHeartbeats 1000000 in
theorem fields_0 (w : World) : Calls Try.prog 20 #[.int .i64 0] w (FldPost w [(1, 1), (2, 2), (3, 6), (4, 2), (5, 8)] true) := by
  go_enter Try.func20, Try.ntmps20
  go_wp2_with fail
  go_ret2
  refine ⟨w.heap.size, 5, rfl, ?_, bAl (bRef w) _⟩
  obtain ⟨g, c, e, h⟩ := PRow.of (row5 w) rfl (by decide)
  injection e with e _ _
  injection e with e
  injection e with e _ _
  rw [e]; exact h

set_option maxHeartbeats 1000000 in
theorem fields_2 (w : World) : Calls Try.prog 20 #[.int .i64 2] w (FldPost w [(1, 1), (2, 2), (3, 6), (4, 2), (5, 8)] true) := by
  go_enter Try.func20, Try.ntmps20
  go_wp2_with fail
  go_ret2
  refine ⟨w.heap.size, 5, rfl, ?_, bAl (bRef w) _⟩
  obtain ⟨g, c, e, h⟩ := PRow.of (row5 w) rfl (by decide)
  injection e with e _ _
  injection e with e
  injection e with e _ _
  rw [e]; exact h

set_option maxHeartbeats 1000000 in
theorem fields_no (k : Int) (w : World) (h0 : (k == 0) = false) (h2 : (k == 2) = false) (h3 : (k == 3) = false) (h10 : (k == 10) = false) (h8 : (k == 8) = false) (h11 : (k == 11) = false) : Calls Try.prog 20 #[.int .i64 k] w (FldPost w [(1, 1), (2, 2), (3, 6), (4, 2), (5, 8)] false) := by
  go_enter Try.func20, Try.ntmps20
  go_wp2_with fail
  go_ret2
  refine ⟨w.heap.size, 5, rfl, ?_, bAl (bRef w) _⟩
  obtain ⟨g, c, e, h⟩ := PRow.of (row5 w) rfl (by decide)
  injection e with e _ _
  injection e with e
  injection e with e _ _
  rw [e]; exact h

set_option maxHeartbeats 1000000 in
theorem fields_3 (w : World) : Calls Try.prog 20 #[.int .i64 3] w (FldPost w [(1, 1), (2, 2), (3, 6), (4, 2), (5, 8), (6, 8), (7, 6), (8, 2)] true) := by
  obtain ⟨i0, hi, hz0, hz1, hz2⟩ := info_parts Try.infoP
  have HO := Lib.hid (row5_alloc w (.cells #[.int .i64 6, .int .i64 8, .int .i64 7, .int .i64 6, .int .i64 8, .int .i64 2] 58))
  have HR : Hid (∀ j u, (pv [(6, 8), (7, 6), (8, 2)])[j]? = some u → ((w.alloc (.cells #[.int .i64 1, .int .i64 1, .int .i64 2, .int .i64 2, .int .i64 3, .int .i64 6, .int .i64 4, .int .i64 2, .int .i64 5, .int .i64 8] 58)).alloc (.cells #[.int .i64 6, .int .i64 8, .int .i64 7, .int .i64 6, .int .i64 8, .int .i64 2] 58)).cell? ((⟨w.heap.size + 1, 0, none⟩ : Addr).add j) = some u) := Lib.hid (fun j u hu => by
    rw [addr_add2, Nat.zero_add, cell_of_row _ _ _ _ _ _ (heap_alloc2_new w _ _)]
    rw [← hu]; simp [pv])
  go_enter Try.func20, Try.ntmps20
  go_wp2_with (at_builtin; refine wpList_append_own _ rfl _ _ 55 rfl w.heap.size 58 i0 (.agg #[.int .i64 0, .int .i64 0]) 2 16 Try.underlying55 hi hz0 hz1 hz2 rfl (by decide) (.slice (some ⟨w.heap.size, 0, none⟩) 5 5) 5 (pv [(1, 1), (2, 2), (3, 6), (4, 2), (5, 8)]) rfl HO.out ⟨w.heap.size + 1, 0, none⟩ 3 3 (pv [(6, 8), (7, 6), (8, 2)]) rfl rfl HR.out (pv_one _) (by decide) (by decide) (by simp; omega) ?_; intro v1 w1 hown hgrow _; have HG := Lib.hid hown; have HW := Lib.hid ((bAl (bAl (bRef w) (.cells #[.int .i64 1, .int .i64 1, .int .i64 2, .int .i64 2, .int .i64 3, .int .i64 6, .int .i64 4, .int .i64 2, .int .i64 5, .int .i64 8] 58)) (.cells #[.int .i64 6, .int .i64 8, .int .i64 7, .int .i64 6, .int .i64 8, .int .i64 2] 58)).grown hgrow (by simp; omega) (fun k hk => (HO.out.lt k hk).1)); clear hown hgrow; obtain ⟨g1, c1, rfl, hp⟩ := PRow.of (ps := [(1, 1), (2, 2), (3, 6), (4, 2), (5, 8), (6, 8), (7, 6), (8, 2)]) HG.out rfl (by decide); have HP := Lib.hid hp; clear hp HG)
  go_ret2
  exact ⟨g1, c1, rfl, HP.out, HW.out⟩

set_option maxHeartbeats 1000000 in
theorem fields_10 (w : World) : Calls Try.prog 20 #[.int .i64 10] w (FldPost w [(1, 1), (2, 2), (3, 6), (4, 2), (5, 8), (6, 8), (7, 6), (8, 2)] true) := by
  obtain ⟨i0, hi, hz0, hz1, hz2⟩ := info_parts Try.infoP
  have HO := Lib.hid (row5_alloc w (.cells #[.int .i64 6, .int .i64 8, .int .i64 7, .int .i64 6, .int .i64 8, .int .i64 2] 58))
  have HR : Hid (∀ j u, (pv [(6, 8), (7, 6), (8, 2)])[j]? = some u → ((w.alloc (.cells #[.int .i64 1, .int .i64 1, .int .i64 2, .int .i64 2, .int .i64 3, .int .i64 6, .int .i64 4, .int .i64 2, .int .i64 5, .int .i64 8] 58)).alloc (.cells #[.int .i64 6, .int .i64 8, .int .i64 7, .int .i64 6, .int .i64 8, .int .i64 2] 58)).cell? ((⟨w.heap.size + 1, 0, none⟩ : Addr).add j) = some u) := Lib.hid (fun j u hu => by
    rw [addr_add2, Nat.zero_add, cell_of_row _ _ _ _ _ _ (heap_alloc2_new w _ _)]
    rw [← hu]; simp [pv])
  go_enter Try.func20, Try.ntmps20
  go_wp2_with (at_builtin; refine wpList_append_own _ rfl _ _ 55 rfl w.heap.size 58 i0 (.agg #[.int .i64 0, .int .i64 0]) 2 16 Try.underlying55 hi hz0 hz1 hz2 rfl (by decide) (.slice (some ⟨w.heap.size, 0, none⟩) 5 5) 5 (pv [(1, 1), (2, 2), (3, 6), (4, 2), (5, 8)]) rfl HO.out ⟨w.heap.size + 1, 0, none⟩ 3 3 (pv [(6, 8), (7, 6), (8, 2)]) rfl rfl HR.out (pv_one _) (by decide) (by decide) (by simp; omega) ?_; intro v1 w1 hown hgrow _; have HG := Lib.hid hown; have HW := Lib.hid ((bAl (bAl (bRef w) (.cells #[.int .i64 1, .int .i64 1, .int .i64 2, .int .i64 2, .int .i64 3, .int .i64 6, .int .i64 4, .int .i64 2, .int .i64 5, .int .i64 8] 58)) (.cells #[.int .i64 6, .int .i64 8, .int .i64 7, .int .i64 6, .int .i64 8, .int .i64 2] 58)).grown hgrow (by simp; omega) (fun k hk => (HO.out.lt k hk).1)); clear hown hgrow; obtain ⟨g1, c1, rfl, hp⟩ := PRow.of (ps := [(1, 1), (2, 2), (3, 6), (4, 2), (5, 8), (6, 8), (7, 6), (8, 2)]) HG.out rfl (by decide); have HP := Lib.hid hp; clear hp HG)
  go_ret2
  exact ⟨g1, c1, rfl, HP.out, HW.out⟩

set_option maxHeartbeats 1000000 in
theorem fields_8 (w : World) : Calls Try.prog 20 #[.int .i64 8] w (FldPost w [(1, 1), (2, 2), (3, 6), (4, 2), (5, 8), (6, 8), (9, 8)] true) := by
  obtain ⟨i0, hi, hz0, hz1, hz2⟩ := info_parts Try.infoP
  have HO := Lib.hid (row5_alloc w (.cells #[.int .i64 6, .int .i64 8, .int .i64 9, .int .i64 8] 58))
  have HR : Hid (∀ j u, (pv [(6, 8), (9, 8)])[j]? = some u → ((w.alloc (.cells #[.int .i64 1, .int .i64 1, .int .i64 2, .int .i64 2, .int .i64 3, .int .i64 6, .int .i64 4, .int .i64 2, .int .i64 5, .int .i64 8] 58)).alloc (.cells #[.int .i64 6, .int .i64 8, .int .i64 9, .int .i64 8] 58)).cell? ((⟨w.heap.size + 1, 0, none⟩ : Addr).add j) = some u) := Lib.hid (fun j u hu => by
    rw [addr_add2, Nat.zero_add, cell_of_row _ _ _ _ _ _ (heap_alloc2_new w _ _)]
    rw [← hu]; simp [pv])
  go_enter Try.func20, Try.ntmps20
  go_wp2_with (at_builtin; refine wpList_append_own _ rfl _ _ 55 rfl w.heap.size 58 i0 (.agg #[.int .i64 0, .int .i64 0]) 2 16 Try.underlying55 hi hz0 hz1 hz2 rfl (by decide) (.slice (some ⟨w.heap.size, 0, none⟩) 5 5) 5 (pv [(1, 1), (2, 2), (3, 6), (4, 2), (5, 8)]) rfl HO.out ⟨w.heap.size + 1, 0, none⟩ 2 2 (pv [(6, 8), (9, 8)]) rfl rfl HR.out (pv_one _) (by decide) (by decide) (by simp; omega) ?_; intro v1 w1 hown hgrow _; have HG := Lib.hid hown; have HW := Lib.hid ((bAl (bAl (bRef w) (.cells #[.int .i64 1, .int .i64 1, .int .i64 2, .int .i64 2, .int .i64 3, .int .i64 6, .int .i64 4, .int .i64 2, .int .i64 5, .int .i64 8] 58)) (.cells #[.int .i64 6, .int .i64 8, .int .i64 9, .int .i64 8] 58)).grown hgrow (by simp; omega) (fun k hk => (HO.out.lt k hk).1)); clear hown hgrow; obtain ⟨g1, c1, rfl, hp⟩ := PRow.of (ps := [(1, 1), (2, 2), (3, 6), (4, 2), (5, 8), (6, 8), (9, 8)]) HG.out rfl (by decide); have HP := Lib.hid hp; clear hp HG)
  go_ret2
  exact ⟨g1, c1, rfl, HP.out, HW.out⟩

set_option maxHeartbeats 1000000 in
theorem fields_11 (w : World) : Calls Try.prog 20 #[.int .i64 11] w (FldPost w [(1, 1), (2, 2), (3, 6), (4, 2), (5, 8), (10, 1), (11, 1), (12, 1), (13, 6), (14, 1)] true) := by
  obtain ⟨i0, hi, hz0, hz1, hz2⟩ := info_parts Try.infoP
  have HO := Lib.hid (row5_alloc w (.cells #[.int .i64 10, .int .i64 1, .int .i64 11, .int .i64 1, .int .i64 12, .int .i64 1, .int .i64 13, .int .i64 6, .int .i64 14, .int .i64 1] 58))
  have HR : Hid (∀ j u, (pv [(10, 1), (11, 1), (12, 1), (13, 6), (14, 1)])[j]? = some u → ((w.alloc (.cells #[.int .i64 1, .int .i64 1, .int .i64 2, .int .i64 2, .int .i64 3, .int .i64 6, .int .i64 4, .int .i64 2, .int .i64 5, .int .i64 8] 58)).alloc (.cells #[.int .i64 10, .int .i64 1, .int .i64 11, .int .i64 1, .int .i64 12, .int .i64 1, .int .i64 13, .int .i64 6, .int .i64 14, .int .i64 1] 58)).cell? ((⟨w.heap.size + 1, 0, none⟩ : Addr).add j) = some u) := Lib.hid (fun j u hu => by
    rw [addr_add2, Nat.zero_add, cell_of_row _ _ _ _ _ _ (heap_alloc2_new w _ _)]
    rw [← hu]; simp [pv])
  go_enter Try.func20, Try.ntmps20
  go_wp2_with (at_builtin; refine wpList_append_own _ rfl _ _ 55 rfl w.heap.size 58 i0 (.agg #[.int .i64 0, .int .i64 0]) 2 16 Try.underlying55 hi hz0 hz1 hz2 rfl (by decide) (.slice (some ⟨w.heap.size, 0, none⟩) 5 5) 5 (pv [(1, 1), (2, 2), (3, 6), (4, 2), (5, 8)]) rfl HO.out ⟨w.heap.size + 1, 0, none⟩ 5 5 (pv [(10, 1), (11, 1), (12, 1), (13, 6), (14, 1)]) rfl rfl HR.out (pv_one _) (by decide) (by decide) (by simp; omega) ?_; intro v1 w1 hown hgrow _; have HG := Lib.hid hown; have HW := Lib.hid ((bAl (bAl (bRef w) (.cells #[.int .i64 1, .int .i64 1, .int .i64 2, .int .i64 2, .int .i64 3, .int .i64 6, .int .i64 4, .int .i64 2, .int .i64 5, .int .i64 8] 58)) (.cells #[.int .i64 10, .int .i64 1, .int .i64 11, .int .i64 1, .int .i64 12, .int .i64 1, .int .i64 13, .int .i64 6, .int .i64 14, .int .i64 1] 58)).grown hgrow (by simp; omega) (fun k hk => (HO.out.lt k hk).1)); clear hown hgrow; obtain ⟨g1, c1, rfl, hp⟩ := PRow.of (ps := [(1, 1), (2, 2), (3, 6), (4, 2), (5, 8), (10, 1), (11, 1), (12, 1), (13, 6), (14, 1)]) HG.out rfl (by decide); have HP := Lib.hid hp; clear hp HG)
  go_ret2
  exact ⟨g1, c1, rfl, HP.out, HW.out⟩

end Go.Proofs.Ytcdcklkbjfhhnaa
