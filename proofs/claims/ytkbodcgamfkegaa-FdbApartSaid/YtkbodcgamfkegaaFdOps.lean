/- Package fdb: the small ones. -/
import Derived.Test.YtkbodcgamfkegaaFdTab
namespace Go.Proofs.Ytkbodcgamfkegaa
open Go.RowKit Go.Joins Go.Maps Go.MapKept Go.ChangeMaps Go.WideMaps

theorem heap_alloc_one (w : World) (o : Obj) : (w.alloc o).heap[w.heap.size]? = some o := (MapKept.heap_alloc w o).1
theorem isVid_yes (x : Int) (h0 : 1 ≤ x) (h1 : x ≤ 4094) (w : World) : Calls Try.prog 27 #[.int .i64 x] w fun e w' => e = .returned (.bool true) ∧ w' = w := by
  have d1 : decide (1 ≤ x) = true := decide_eq_true h0
  have d2 : decide (x ≤ 4094) = true := decide_eq_true h1
  clear h0 h1
  go_enter Try.func27, Try.ntmps27
  go_wp2_with fail
  go_ret
  exact ⟨rfl, rfl⟩
theorem isVid_no (x : Int) (h : x < 1 ∨ 4094 < x) (w : World) : Calls Try.prog 27 #[.int .i64 x] w fun e w' => e = .returned (.bool false) ∧ w' = w := by
  by_cases h0 : 1 ≤ x
  · have d1 : decide (1 ≤ x) = true := decide_eq_true h0
    have d2 : decide (x ≤ 4094) = false := decide_eq_false (by omega)
    clear h0 h
    go_enter Try.func27, Try.ntmps27
    go_wp2_with fail
    go_ret
    exact ⟨rfl, rfl⟩
  · have d1 : decide (1 ≤ x) = false := decide_eq_false h0
    clear h0 h
    go_enter Try.func27, Try.ntmps27
    go_wp2_with fail
    go_ret
    exact ⟨rfl, rfl⟩
theorem isPrio_yes (x : Int) (h0 : 0 ≤ x) (h1 : x ≤ 7) (w : World) : Calls Try.prog 28 #[.int .i64 x] w fun e w' => e = .returned (.bool true) ∧ w' = w := by
  have d1 : decide (0 ≤ x) = true := decide_eq_true h0
  have d2 : decide (x ≤ 7) = true := decide_eq_true h1
  clear h0 h1
  go_enter Try.func28, Try.ntmps28
  go_wp2_with fail
  go_ret
  exact ⟨rfl, rfl⟩
theorem isPrio_no (x : Int) (h : x < 0 ∨ 7 < x) (w : World) : Calls Try.prog 28 #[.int .i64 x] w fun e w' => e = .returned (.bool false) ∧ w' = w := by
  by_cases h0 : 0 ≤ x
  · have d1 : decide (0 ≤ x) = true := decide_eq_true h0
    have d2 : decide (x ≤ 7) = false := decide_eq_false (by omega)
    clear h0 h
    go_enter Try.func28, Try.ntmps28
    go_wp2_with fail
    go_ret
    exact ⟨rfl, rfl⟩
  · have d1 : decide (0 ≤ x) = false := decide_eq_false h0
    clear h0 h
    go_enter Try.func28, Try.ntmps28
    go_wp2_with fail
    go_ret
    exact ⟨rfl, rfl⟩

section
variable {B m : Nat} {w : World} {b : TB} {s : TS}
theorem hasPort_any (h : Tab B w b m s) (x : Int) : Calls Try.prog 29 #[.pointer (some ⟨b.t, 0, none⟩), .int .i64 x] w fun e w' => e = .returned (.bool (decide (0 ≤ x ∧ x < (s.n : Int)))) ∧ w' = w := by
  obtain ⟨c0, c1, c2, c3, c4⟩ := h.cells
  clear h
  by_cases h0 : 0 ≤ x
  · by_cases h1 : x < (s.n : Int)
    · have d1 : decide (0 ≤ x) = true := decide_eq_true h0
      have d2 : decide (x < (s.n : Int)) = true := decide_eq_true h1
      rw [show decide (0 ≤ x ∧ x < (s.n : Int)) = true from decide_eq_true ⟨h0, h1⟩]
      clear h0 h1
      go_enter Try.func29, Try.ntmps29
      go_wp2_with fail
      go_ret
      exact ⟨rfl, rfl⟩
    · have d1 : decide (0 ≤ x) = true := decide_eq_true h0
      have d2 : decide (x < (s.n : Int)) = false := decide_eq_false h1
      rw [show decide (0 ≤ x ∧ x < (s.n : Int)) = false from decide_eq_false (fun h => h1 h.2)]
      clear h0 h1
      go_enter Try.func29, Try.ntmps29
      go_wp2_with fail
      go_ret
      exact ⟨rfl, rfl⟩
  · have d1 : decide (0 ≤ x) = false := decide_eq_false h0
    rw [show decide (0 ≤ x ∧ x < (s.n : Int)) = false from decide_eq_false (fun h => h0 h.1)]
    clear h0
    go_enter Try.func29, Try.ntmps29
    go_wp2_with fail
    go_ret
    exact ⟨rfl, rfl⟩
theorem len_any (h : Tab B w b m s) (hm : m ≤ 1000000) : Calls Try.prog 13 #[.pointer (some ⟨b.t, 0, none⟩)] w fun e w' => e = .returned (.int .i64 ((s.S.length + s.E.length : Nat) : Int)) ∧ Below w.heap.size w w' := by
  obtain ⟨c0, c1, c2, c3, c4⟩ := h.cells
  have l1 := h.ms.le
  have l2 := h.me.le
  have hms := h.ms
  have hme := h.me
  have hs : ∀ ty, (Builtin.len_ #[78] ty #[.map (some b.s)]).run Try.prog w = .ok (.int .i64 (s.S.length : Int)) w := fun ty => h.ms.len ty
  have he : ∀ ty, (Builtin.len_ #[79] ty #[.map (some b.e)]).run Try.prog w = .ok (.int .i64 (s.E.length : Int)) w := fun ty => h.me.len ty
  clear h
  go_enter Try.func13, Try.ntmps13
  go_wp2_with fail
  have hs2 : ∀ ty, (Builtin.len_ #[78] ty #[.map (some b.s)]).run Try.prog w.drew = .ok (.int .i64 (s.S.length : Int)) w.drew := fun ty => MapL.len (w := w.drew) hms ty
  have he2 : ∀ ty, (Builtin.len_ #[79] ty #[.map (some b.e)]).run Try.prog w.drew = .ok (.int .i64 (s.E.length : Int)) w.drew := fun ty => MapL.len (w := w.drew) hme ty
  clear hms hme hs he
  go_region
  all_goals go_wp2_with fail
  all_goals go_ret
  all_goals exact ⟨by show Ending.returned (Value.int .i64 ((s.S.length : Int) + (s.E.length : Int))) = _; rw [show ((s.S.length : Int) + (s.E.length : Int)) = ((s.S.length + s.E.length : Nat) : Int) by omega], bDr (bRef w) 1⟩
theorem isSet_any (h : Tab B w b m s) (x : Int) : Calls Try.prog 36 #[.pointer (some ⟨b.t, 0, none⟩), .int .i64 x] w fun e w' => e = .returned (.bool (decide (0 ≤ x ∧ x < ((2 ^ s.n : Nat) : Int)))) ∧ w' = w := by
  obtain ⟨c0, c1, c2, c3, c4⟩ := h.cells
  have n8 := h.n8
  clear h
  go_enter Try.func36, Try.ntmps36
  go_wp2_with fail
  go_ret
  refine ⟨?_, rfl⟩
  have hp : (0 : Int) < 2 ^ s.n := Int.pow_pos (by omega)
  have e : (((2 ^ s.n : Nat) : Int)) = 2 ^ s.n := by simp
  rw [e]
  generalize (2 : Int) ^ s.n = z at *
  have key : (x / z == 0) = decide (0 ≤ x ∧ x < z) := by
    rw [Bool.eq_iff_iff, beq_iff_eq, decide_eq_true_eq]
    constructor
    · intro hx
      have h1 := Int.mul_ediv_add_emod x z
      have h2 := Int.emod_nonneg x (show z ≠ 0 by omega)
      have h3 := Int.emod_lt_of_pos x hp
      rw [hx, Int.mul_zero] at h1
      omega
    · rintro ⟨h1, h2⟩
      exact Int.ediv_eq_zero_of_lt h1 h2
  rw [key]
  rfl
def whereV (s : TS) (p : Pl) : Int := match lookL s.E p with
  | some c => ((2 ^ c.1.toNat : Nat) : Int)
  | none => (lookL s.S p).getD 0
set_option maxHeartbeats 4000000 in
theorem where_any (h : Tab B w b m s) (p : Pl) (hp : p.Good) (hE : ∀ e ∈ s.E, 0 ≤ e.2.1 ∧ e.2.1 < 8) : Calls Try.prog 30 #[.pointer (some ⟨b.t, 0, none⟩), PV p] w fun e w' => e = .returned (.int .i64 (whereV s p)) ∧ Below w.heap.size w w' := by
  obtain ⟨res, hres⟩ : ∃ res, whereV s p = res := ⟨_, rfl⟩
  rw [hres]
  have HR := Lib.hid hres
  clear hres
  obtain ⟨PB, hPB⟩ : ∃ PB : Obj, PB = .cells #[.int .i64 p.1, .int .u8 (p.2.y0 : Int), .int .u8 (p.2.y1 : Int), .int .u8 (p.2.y2 : Int), .int .u8 (p.2.y3 : Int), .int .u8 (p.2.y4 : Int), .int .u8 (p.2.y5 : Int)] 42 := ⟨_, rfl⟩
  have hH := Lib.hid (h.below (bAl (bRef w) PB))
  go_enter Try.func30, Try.ntmps30
  go_wp2_with fail
  obtain ⟨W, hW⟩ : ∃ W, w.alloc PB = W := ⟨_, rfl⟩
  have x0 : W.heap[w.heap.size]? = some PB := by rw [← hW]; exact heap_alloc_one w PB
  have x1 := Lib.hid (show Below w.heap.size w W by rw [← hW]; exact bAl (bRef w) _)
  rw [hPB] at x0 hW
  rw [hW]
  rw [hPB] at hH
  rw [hW] at hH
  have h1 := hH.out
  obtain ⟨c0, c1, c2, c3, c4⟩ := h1.cells
  have q0 : W.cell? ⟨w.heap.size, 0, none⟩ = some (.int .i64 p.1) := cell_of_row _ _ _ _ _ _ x0
  have q1 : W.cell? ⟨w.heap.size, 1, none⟩ = some (.int .u8 (p.2.y0 : Int)) := cell_of_row _ _ _ _ _ _ x0
  have q2 : W.cell? ⟨w.heap.size, 2, none⟩ = some (.int .u8 (p.2.y1 : Int)) := cell_of_row _ _ _ _ _ _ x0
  have q3 : W.cell? ⟨w.heap.size, 3, none⟩ = some (.int .u8 (p.2.y2 : Int)) := cell_of_row _ _ _ _ _ _ x0
  have q4 : W.cell? ⟨w.heap.size, 4, none⟩ = some (.int .u8 (p.2.y3 : Int)) := cell_of_row _ _ _ _ _ _ x0
  have q5 : W.cell? ⟨w.heap.size, 5, none⟩ = some (.int .u8 (p.2.y4 : Int)) := cell_of_row _ _ _ _ _ _ x0
  have q6 : W.cell? ⟨w.heap.size, 6, none⟩ = some (.int .u8 (p.2.y5 : Int)) := cell_of_row _ _ _ _ _ _ x0
  have he : (Instr.lookup 79 (.map (some b.e)) (PV p) true).run Try.prog W = .ok (.tuple #[V2 ((lookL s.E p).getD (0, 0)), .bool (lookL s.E p).isSome]) W := h1.me.look_ok p hp
  have he1 : (Instr.lookup 79 (.map (some b.e)) (PV p) true).run Try.prog W.drew = .ok (.tuple #[V2 ((lookL s.E p).getD (0, 0)), .bool (lookL s.E p).isSome]) W.drew := MapL.look_ok (w := W.drew) h1.me p hp
  obtain ⟨Z2, hZ2⟩ : ∃ Z2 : Obj, Z2 = .cells #[.int .i64 0, .int .i64 0] 86 := ⟨_, rfl⟩
  have h2 := h1.below (bAl (bRef W) Z2)
  have hlt := lt_of_heap x0
  have x2 : (W.alloc Z2).heap[w.heap.size]? = some (.cells #[.int .i64 p.1, .int .u8 (p.2.y0 : Int), .int .u8 (p.2.y1 : Int), .int .u8 (p.2.y2 : Int), .int .u8 (p.2.y3 : Int), .int .u8 (p.2.y4 : Int), .int .u8 (p.2.y5 : Int)] 42) := ((bAl (bRef W) Z2).block _ hlt).trans x0
  obtain ⟨d0, d1, d2, d3, d4⟩ := h2.cells
  have r0 : (W.alloc Z2).cell? ⟨w.heap.size, 0, none⟩ = some (.int .i64 p.1) := cell_of_row _ _ _ _ _ _ x2
  have r1 : (W.alloc Z2).cell? ⟨w.heap.size, 1, none⟩ = some (.int .u8 (p.2.y0 : Int)) := cell_of_row _ _ _ _ _ _ x2
  have r2 : (W.alloc Z2).cell? ⟨w.heap.size, 2, none⟩ = some (.int .u8 (p.2.y1 : Int)) := cell_of_row _ _ _ _ _ _ x2
  have r3 : (W.alloc Z2).cell? ⟨w.heap.size, 3, none⟩ = some (.int .u8 (p.2.y2 : Int)) := cell_of_row _ _ _ _ _ _ x2
  have r4 : (W.alloc Z2).cell? ⟨w.heap.size, 4, none⟩ = some (.int .u8 (p.2.y3 : Int)) := cell_of_row _ _ _ _ _ _ x2
  have r5 : (W.alloc Z2).cell? ⟨w.heap.size, 5, none⟩ = some (.int .u8 (p.2.y4 : Int)) := cell_of_row _ _ _ _ _ _ x2
  have r6 : (W.alloc Z2).cell? ⟨w.heap.size, 6, none⟩ = some (.int .u8 (p.2.y5 : Int)) := cell_of_row _ _ _ _ _ _ x2
  have he2 : (Instr.lookup 79 (.map (some b.e)) (PV p) true).run Try.prog (W.alloc Z2).drew = .ok (.tuple #[V2 ((lookL s.E p).getD (0, 0)), .bool (lookL s.E p).isSome]) (W.alloc Z2).drew := MapL.look_ok (w := (W.alloc Z2).drew) h2.me p hp
  rw [hZ2] at d0 d1 d2 d3 d4 r0 r1 r2 r3 r4 r5 r6 he2
  clear h1 h2 x2 hZ2 he
  have hms0 : MapL MS W b.s m s.S := hH.out.ms
  rcases hl : lookL s.E p with _ | c
  · have hv : whereV s p = (lookL s.S p).getD 0 := by unfold whereV; rw [hl]
    have hr9 := HR.out
    rw [hv] at hr9
    clear HR hv
    subst hr9
    rw [hl] at he1 he2
    obtain ⟨Z3, hZ3⟩ : ∃ Z3 : Obj, Z3 = .cells #[.int .i64 0, .int .i64 0] 86 := ⟨_, rfl⟩
    have hs1 : (Instr.lookup 78 (.map (some b.s)) (PV p) false).run Try.prog (W.alloc Z3).drew.drew = .ok (.int .i64 ((lookL s.S p).getD 0)) (W.alloc Z3).drew.drew := MapL.look (M := MS) (w := (W.alloc Z3).drew.drew) (hms0.heap (((MapKept.heap_alloc W Z3).2 b.s hms0.lt))) p hp
    have hs2 : (Instr.lookup 78 (.map (some b.s)) (PV p) false).run Try.prog (W.alloc Z3).drew = .ok (.int .i64 ((lookL s.S p).getD 0)) (W.alloc Z3).drew := MapL.look (M := MS) (w := (W.alloc Z3).drew) (hms0.heap (((MapKept.heap_alloc W Z3).2 b.s hms0.lt))) p hp
    rw [hZ3] at hs1 hs2
    clear hZ3 hms0
    go_region
    all_goals
      go_wp2_with fail
      go_region
      all_goals
        go_wp2_with fail
        go_ret
        exact ⟨rfl, bTr x1.out (bDr (bAl (bRef W) _) 2)⟩
  · have hv : whereV s p = ((2 ^ c.1.toNat : Nat) : Int) := by unfold whereV; rw [hl]
    have hr9 := HR.out
    rw [hv] at hr9
    clear HR hv
    subst hr9
    have hc := hE _ (lookL_mem hl)
    obtain ⟨ca, cn⟩ := c
    rw [hl] at he1 he2
    simp only [Option.getD_some, Option.isSome_some] at he1 he2
    simp only at hc
    have hk : ca = 0 ∨ ca = 1 ∨ ca = 2 ∨ ca = 3 ∨ ca = 4 ∨ ca = 5 ∨ ca = 6 ∨ ca = 7 := by omega
    have hl9 := Lib.hid hl
    clear hc hms0 hl hE
    go_region
    all_goals
      rcases hk with rfl | rfl | rfl | rfl | rfl | rfl | rfl | rfl
      all_goals
        go_wp2_with fail
        go_ret
        exact ⟨rfl, bTr x1.out (bDr (bAl (bRef W) _) 1)⟩
end

end Go.Proofs.Ytkbodcgamfkegaa
