/- Package osc: the leg in which a time lies. -/
import Derived.Test.YtffjbngelapmmaaOsD
import Derived.BigQuiet
import Derived.Laws.ResultCell
namespace Go.Proofs.Ytffjbngelapmmaa
open Go.RowKit Go.Joins

/-- A leg of the result's own block, and an error. -/
theorem bodyLeg {R : Ending → World → Prop} {a : Act} {w : World} {g : Nat} {x : Value} {c0 c1 c2 : Value} {fr : Nat × Nat} (hp : a.tmps.getD 4 undef = .pointer (some ⟨g, 0, none⟩)) (hx : a.tmps.getD 5 undef = x) (hg : w.heap[g]? = some (.cells #[c0, c1, c2] 57 fr)) (hd : a.defers = [])
    (hR : R (.returned (.tuple #[.agg #[c0, c1, c2], x])) w) : bodyPost Try.prog Try.f23 R .ret a w := by
  refine bodyPost_ret (v := .tuple #[.agg #[c0, c1, c2], x]) ?_ hd hR
  have h := run_loadVar_row w g 57 57 #[c0, c1, c2] fr _ hg Try.underlying57 rfl (by kernel_rfl)
  rw [results_cell_tmp Try.results23, hp, hx]
  simp only [asAddr, Sem.run_pure, Result.andThen_ok, h]

theorem legf_ret (bc ba b l n c i : Nat) (x a : Int) (w : World) (h1 : w.cell? ⟨bc, 0, none⟩ = some (.pointer (some ⟨b, 0, none⟩))) (h2 : w.cell? ⟨ba, 0, none⟩ = some (.int .i64 x)) (h3 : w.cell? ⟨b, 1, none⟩ = some (.slice (some ⟨l, 0, none⟩) n c))
    (h4 : w.cell? ⟨l, i * 3, none⟩ = some (.int .i64 a)) (hi : i < n) :
    Calls Try.prog 32 #[.int .i64 (i : Int), .pointer (some ⟨bc, 0, none⟩), .pointer (some ⟨ba, 0, none⟩)] w fun e w' => e = .returned (.bool (decide (x < a))) ∧ Below w.heap.size w w' := by
  have hz : (i : Int) < (n : Int) := by omega
  have d : decide ((i : Int) < (n : Int)) = true := decide_eq_true hz
  have lbc : bc < w.heap.size := World.block_lt_of_cell? _ _ h1
  go_enter Try.func32, Try.ntmps32
  go_wp2_with fail
  go_quiet (fail)
  all_goals go_wp2_with fail
  all_goals
    go_ret
    exact ⟨rfl, bDr (bRef w) _⟩

theorem al3 (w : World) (o1 o2 o3 : Obj) : (((w.alloc o1).alloc o2).alloc o3).heap[w.heap.size + 1 + 1]? = some o3 := by
  have := heap_alloc_new ((w.alloc o1).alloc o2) o3
  simpa using this
theorem al2 (w : World) (o1 o2 o3 : Obj) : (((w.alloc o1).alloc o2).alloc o3).heap[w.heap.size + 1]? = some o2 := by
  rw [heap_alloc_old _ o3 (by simp)]
  have := heap_alloc_new (w.alloc o1) o2
  simpa using this
theorem al1 (w : World) (o1 o2 o3 : Obj) : (((w.alloc o1).alloc o2).alloc o3).heap[w.heap.size]? = some o1 := by
  rw [heap_alloc_old _ o3 (by simp; omega), heap_alloc_old _ o2 (by simp)]
  exact heap_alloc_new w o1
theorem leg_nil (x : Int) (w : World) :
    Calls Try.prog 23 #[.pointer none, .int .i64 x] w fun e w' => e = .returned (.tuple #[.agg #[.int .i64 0, .int .i64 0, .int .i64 0], .int .i64 1]) ∧ Below w.heap.size w w' := by
  go_enter Try.func23, Try.ntmps23
  go_wp2_with fail
  refine bodyLeg rfl rfl (al3 _ _ _ _) rfl ⟨rfl, ?_⟩
  exact bAl (bAl (bAl (bRef w) _) _) _

theorem leg_bad {B : Nat} {v : Value} {s g : Int} {ts : List (Int × Int)} {w : World} (h : Clk B w v s g ts) (hg : Good ts) (x : Int) (hx : x < 0 ∨ 1099511627776 < x) :
    Calls Try.prog 23 #[v, .int .i64 x] w fun e w' => e = .returned (.tuple #[.agg #[.int .i64 0, .int .i64 0, .int .i64 0], .int .i64 1]) ∧ Below w.heap.size w w' := by
  obtain ⟨b, l, c, rfl, _, _, hb, hl, h1, h2, h3⟩ := h
  have d0 : ((ts.length : Int) == 0) = false := by rw [beq_eq_false_iff_ne]; have := hg.pos; omega
  generalize ts.length = n at *
  have q : (((w.alloc (.cells #[.pointer (some ⟨b, 0, none⟩)] 26)).alloc (.cells #[.int .i64 x] 3)).alloc (.cells #[.int .i64 0, .int .i64 0, .int .i64 0] 57)).cell? ⟨b, 1, none⟩ = some (.slice (some ⟨l, 0, none⟩) n c) := ((bAl (bAl (bAl (bRef w) _) _) _).cell hb).trans h2
  clear h3 hg
  rcases hx with hx | hx
  · have d1 : decide (x < 0) = true := decide_eq_true hx
    go_enter Try.func23, Try.ntmps23
    go_wp2_with fail
    refine bodyLeg rfl rfl (al3 _ _ _ _) rfl ⟨rfl, ?_⟩
    exact bAl (bAl (bAl (bRef w) _) _) _
  · have d1 : decide (x < 0) = false := decide_eq_false (by omega)
    have d2 : decide (1099511627776 < x) = true := decide_eq_true hx
    go_enter Try.func23, Try.ntmps23
    go_wp2_with fail
    refine bodyLeg rfl rfl (al3 _ _ _ _) rfl ⟨rfl, ?_⟩
    exact bAl (bAl (bAl (bRef w) _) _) _

theorem leg_fn (args : Array Value) (w : World) : (callFunc 32 args).run Try.prog w = .ok (.enter 32 args) w := by go_simp

set_option maxHeartbeats 1000000 in
theorem leg_ok {B : Nat} {v : Value} {s g : Int} {ts : List (Int × Int)} {w : World} (h : Clk B w v s g ts) (hg : Good ts) (x : Int) (h0 : 0 ≤ x) (h1 : x ≤ 1099511627776) (a r t : Int) (ha : a = tA ts (ix ts x)) (hr : r = tR ts (ix ts x)) (ht : t = told s ts (ix ts x)) :
    Calls Try.prog 23 #[v, .int .i64 x] w fun e w' => e = .returned (.tuple #[.agg #[.int .i64 a, .int .i64 r, .int .i64 t], .int .i64 0]) ∧ Below w.heap.size w w' := by
  obtain ⟨b, l, c, rfl, _, _, hb, hl, k1, k2, k3⟩ := h
  have d0 : ((ts.length : Int) == 0) = false := by rw [beq_eq_false_iff_ne]; have := hg.pos; omega
  have d1 : decide (x < 0) = false := decide_eq_false (by omega)
  have d2 : decide (1099511627776 < x) = false := decide_eq_false (by omega)
  obtain ⟨W0, hW0⟩ : ∃ W0, W0 = (((w.alloc (.cells #[.pointer (some ⟨b, 0, none⟩)] 26)).alloc (.cells #[.int .i64 x] 3)).alloc (.cells #[.int .i64 0, .int .i64 0, .int .i64 0] 57)) := ⟨_, rfl⟩
  have HB0 : Below w.heap.size w W0 := by rw [hW0]; exact bAl (bAl (bAl (bRef w) _) _) _
  have hs0 : W0.heap.size = w.heap.size + 1 + 1 + 1 := by rw [hW0]; simp
  have b1 : W0.heap[w.heap.size]? = some (.cells #[.pointer (some ⟨b, 0, none⟩)] 26 (0, 0)) := by rw [hW0]; exact al1 _ _ _ _
  have b2 : W0.heap[w.heap.size + 1]? = some (.cells #[.int .i64 x] 3 (0, 0)) := by rw [hW0]; exact al2 _ _ _ _
  have b3 : W0.heap[w.heap.size + 1 + 1]? = some (.cells #[.int .i64 0, .int .i64 0, .int .i64 0] 57 (0, 0)) := by rw [hW0]; exact al3 _ _ _ _
  have HP : Hid (∀ a b, a ≤ b → b < ts.length → decide (x < tA ts a) = true → decide (x < tA ts b) = true) := Lib.hid (fun a b h1 h2 h3 => by
    rw [decide_eq_true_iff] at h3 ⊢
    have := hg.mono b a h1 h2
    omega)
  have HF : Hid (∀ W, Below W0.heap.size W0 W → ∀ i, i < ts.length → Calls Try.prog 32 (#[.int .i64 (i : Int)] ++ #[.pointer (some ⟨w.heap.size, 0, none⟩), .pointer (some ⟨w.heap.size + 1, 0, none⟩)]) W fun e W' => e = .returned (.bool (decide (x < tA ts i))) ∧ Below W.heap.size W W') := Lib.hid (fun W hW i hi => by
    have hWw : Below w.heap.size w W := bTr HB0 hW
    refine legf_ret w.heap.size (w.heap.size + 1) b l ts.length c i x _ W ?_ ?_ ((hWw.cell hb).trans k2) ((hWw.cell hl).trans (k3 i hi).1) hi
    · exact cell_of_row _ _ _ _ _ _ ((hW.block _ (by omega)).trans b1)
    · exact cell_of_row _ _ _ _ _ _ ((hW.block _ (by omega)).trans b2))
  have HS := Lib.hid (search_any ts.length 32 #[.pointer (some ⟨w.heap.size, 0, none⟩), .pointer (some ⟨w.heap.size + 1, 0, none⟩)] (fun i => decide (x < tA ts i)) W0 (by have := hg.len; omega) leg_fn HF HP)
  have HK3 := Lib.hid k3
  have HG := Lib.hid hg
  have HA := Lib.hid ha
  have HRR := Lib.hid hr
  have HT := Lib.hid ht
  have HW0 := Lib.hid hW0
  have B3 := Lib.hid b3
  have HS0 := Lib.hid hs0
  have HBW := Lib.hid HB0
  obtain ⟨n, hn⟩ : ∃ n, n = ts.length := ⟨_, rfl⟩
  have HN := Lib.hid hn
  rw [← hn] at d0 k2 HS
  have q : (((w.alloc (.cells #[.pointer (some ⟨b, 0, none⟩)] 26)).alloc (.cells #[.int .i64 x] 3)).alloc (.cells #[.int .i64 0, .int .i64 0, .int .i64 0] 57)).cell? ⟨b, 1, none⟩ = some (.slice (some ⟨l, 0, none⟩) n c) := ((bAl (bAl (bAl (bRef w) _) _) _).cell hb).trans k2
  clear k3 hg ha hr ht hW0 b1 b2 b3 hs0 HB0 HP HF hn
  go_enter Try.func23, Try.ntmps23
  go_wp2_with fail
  rw [← HW0.out]
  refine HS.out.mono ?_
  rintro e w1 ⟨r', rfl, hrn, hlo, hhi, hb1⟩
  obtain ⟨k, rfl⟩ : ∃ k, r' = k + 1 := by
    refine ⟨r' - 1, ?_⟩
    rcases Nat.eq_zero_or_pos r' with h | h
    · subst h
      have := of_decide_eq_true (hhi 0 (Nat.le_refl _) (by rw [HN.out]; exact HG.out.pos))
      rw [HG.out.first] at this
      omega
    · omega
  have hleg : Leg ts x k := ⟨by rw [← HN.out]; omega, by have := of_decide_eq_false (hlo k (by omega)); omega, fun j h1 h2 => of_decide_eq_true (hhi j (by omega) (by rw [HN.out]; exact h2))⟩
  have hix : k = ix ts x := leg_only HG.out hleg (leg_ix HG.out h0)
  have HB1 : Hid (Below w.heap.size w w1) := Lib.hid (bTr HBW.out hb1)
  have hkn : k < n := by omega
  have f0 : w1.cell? ⟨w.heap.size, 0, none⟩ = some (.pointer (some ⟨b, 0, none⟩)) := cell_of_row _ _ _ _ _ _ ((hb1.block w.heap.size (by rw [HS0.out]; omega)).trans (by rw [HW0.out]; exact al1 _ _ _ _))
  have f1 : w1.cell? ⟨b, 1, none⟩ = some (.slice (some ⟨l, 0, none⟩) n c) := (HB1.out.cell hb).trans k2
  have f2 : w1.cell? ⟨l, k * 3, none⟩ = some (.int .i64 a) := by rw [HA.out, ← hix]; exact (HB1.out.cell hl).trans (HK3.out k (by rw [← HN.out]; exact hkn)).1
  have f3 : w1.cell? ⟨l, k * 3 + 1, none⟩ = some (.int .i64 r) := by rw [HRR.out, ← hix]; exact (HB1.out.cell hl).trans (HK3.out k (by rw [← HN.out]; exact hkn)).2.1
  have f4 : w1.cell? ⟨l, k * 3 + 2, none⟩ = some (.int .i64 t) := by rw [HT.out, ← hix]; exact (HB1.out.cell hl).trans (HK3.out k (by rw [← HN.out]; exact hkn)).2.2
  have hbox : w1.heap[w.heap.size + 1 + 1]? = some (.cells #[.int .i64 0, .int .i64 0, .int .i64 0] 57 (0, 0)) := (hb1.block (w.heap.size + 1 + 1) (by rw [HS0.out]; omega)).trans B3.out
  have f5 : w1.cell? ⟨w.heap.size + 1 + 1, 0, none⟩ = some (.int .i64 0) := cell_of_row _ _ _ _ _ _ hbox
  have f6 : w1.cell? ⟨w.heap.size + 1 + 1, 1, none⟩ = some (.int .i64 0) := cell_of_row _ _ _ _ _ _ hbox
  have f7 : w1.cell? ⟨w.heap.size + 1 + 1, 2, none⟩ = some (.int .i64 0) := cell_of_row _ _ _ _ _ _ hbox
  have f8 := frozen_of_row w1 (w.heap.size + 1 + 1) 0 _ _ hbox
  have f9 := frozen_of_row w1 (w.heap.size + 1 + 1) 1 _ _ hbox
  have f10 := frozen_of_row w1 (w.heap.size + 1 + 1) 2 _ _ hbox
  have d3 : decide ((k : Int) < (n : Int)) = true := decide_eq_true (by omega)
  have hw : wrap64 (k : Int) = (k : Int) := by have := HG.out.len; rw [← HN.out] at this; unfold wrap64; omega
  have HBOX := Lib.hid hbox
  clear hlo hhi hleg hix hb1 hbox hrn
  go_wp2_with fail
  refine bodyLeg rfl rfl (heap_setCell_same _ _ 2 _ _ _ (heap_setCell_same _ _ 1 _ _ _ (heap_setCell_same _ _ 0 _ _ _ HBOX.out))) rfl ⟨rfl, ?_⟩
  exact ((HB1.out.setCell (by show _ ≤ w.heap.size + 1 + 1; omega) _).setCell (by show _ ≤ w.heap.size + 1 + 1; omega) _).setCell (by show _ ≤ w.heap.size + 1 + 1; omega) _

end Go.Proofs.Ytffjbngelapmmaa
