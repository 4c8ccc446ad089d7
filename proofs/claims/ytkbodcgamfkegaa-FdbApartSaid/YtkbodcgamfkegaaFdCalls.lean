/- Package fdb: SetVlan, Out, Learn. -/
import Derived.Test.YtkbodcgamfkegaaFdHand
namespace Go.Proofs.Ytkbodcgamfkegaa
open Go.RowKit Go.Joins Go.Maps Go.MapKept Go.ChangeMaps Go.WideMaps

/-- What an address' list may hold. -/
structure OkE (s : TS) : Prop where
  e : ∀ x ∈ s.E, 0 ≤ x.2.1 ∧ x.2.1 < 8
  s : ∀ x ∈ s.S, x.2 = 1 ∨ x.2 = 2 ∨ x.2 = 4 ∨ x.2 = 8 ∨ x.2 = 16 ∨ x.2 = 32 ∨ x.2 = 64 ∨ x.2 = 128
theorem whereV_cases {s : TS} (h : OkE s) (p : Pl) : whereV s p = 0 ∨ whereV s p = 1 ∨ whereV s p = 2 ∨ whereV s p = 4 ∨ whereV s p = 8 ∨ whereV s p = 16 ∨ whereV s p = 32 ∨ whereV s p = 64 ∨ whereV s p = 128 := by
  unfold whereV
  rcases hl : lookL s.E p with _ | c
  · simp only
    rcases hl : lookL s.S p with _ | c
    · exact .inl rfl
    · exact .inr (h.s _ (lookL_mem hl))
  · simp only
    obtain ⟨ca, cn⟩ := c
    have hc := h.e _ (lookL_mem hl)
    simp only at hc ⊢
    have hk : ca = 0 ∨ ca = 1 ∨ ca = 2 ∨ ca = 3 ∨ ca = 4 ∨ ca = 5 ∨ ca = 6 ∨ ca = 7 := by omega
    rcases hk with rfl | rfl | rfl | rfl | rfl | rfl | rfl | rfl
    · exact .inr (.inl rfl)
    · exact .inr (.inr (.inl rfl))
    · exact .inr (.inr (.inr (.inl rfl)))
    · exact .inr (.inr (.inr (.inr (.inl rfl))))
    · exact .inr (.inr (.inr (.inr (.inr (.inl rfl)))))
    · exact .inr (.inr (.inr (.inr (.inr (.inr (.inl rfl))))))
    · exact .inr (.inr (.inr (.inr (.inr (.inr (.inr (.inl rfl)))))))
    · exact .inr (.inr (.inr (.inr (.inr (.inr (.inr (.inr rfl)))))))
/-- A table, and the box of an address. -/
structure HB (B : Nat) (b : TB) (m : Nat) (s : TS) (w : World) (g : Nat) (p : Pl) (W : World) : Prop where
  tab : Tab B W b m s
  box : W.heap[g]? = some (.cells #[.int .i64 p.1, .int .u8 (p.2.y0 : Int), .int .u8 (p.2.y1 : Int), .int .u8 (p.2.y2 : Int), .int .u8 (p.2.y3 : Int), .int .u8 (p.2.y4 : Int), .int .u8 (p.2.y5 : Int)] 42 (0, 0))
  bel : Below w.heap.size w W
section
variable {B m g : Nat} {w W W' : World} {b : TB} {s : TS} {p : Pl}
theorem HB.below (h : HB B b m s w g p W) (hb : Below W.heap.size W W') : HB B b m s w g p W' :=
  ⟨h.tab.below hb, (hb.block _ (lt_of_heap h.box)).trans h.box, bTr h.bel hb⟩
theorem HB.but (h : HB B b m s w g p W) {k m' : Nat} {s' : TS} (ht : Tab B W' b m' s') (hb : ButB k W W') (hk : g ≠ k) (hw : w.heap.size ≤ k) (hk2 : k < W.heap.size) : HB B b m' s' w g p W' :=
  ⟨ht, (hb.block _ (lt_of_heap h.box) hk).trans h.box, h.bel.trans (hb.below hw hk2)⟩
theorem HB.drew (h : HB B b m s w g p W) : HB B b m s w g p W.drew := h.below (bDr (bRef W) 1)
theorem HB.drewN (h : HB B b m s w g p W) (n : Nat) : HB B b m s w g p (W.drewN n) := h.below (bDr (bRef W) n)
theorem HB.alloc (h : HB B b m s w g p W) (o : Obj) : HB B b m s w g p (W.alloc o) := h.below (bAl (bRef W) o)
theorem HB.all (h : HB B b m s w g p W) : W.cell? ⟨b.t, 0, none⟩ = some (.slice (some ⟨b.p, 0, none⟩) s.n s.n) ∧ W.cell? ⟨b.t, 1, none⟩ = some (.int .i64 s.room) ∧ W.cell? ⟨b.t, 2, none⟩ = some (.map (some b.v)) ∧ W.cell? ⟨b.t, 3, none⟩ = some (.map (some b.s)) ∧ W.cell? ⟨b.t, 4, none⟩ = some (.map (some b.e)) ∧
    W.cell? ⟨g, 0, none⟩ = some (.int .i64 p.1) ∧ W.cell? ⟨g, 1, none⟩ = some (.int .u8 (p.2.y0 : Int)) ∧ W.cell? ⟨g, 2, none⟩ = some (.int .u8 (p.2.y1 : Int)) ∧ W.cell? ⟨g, 3, none⟩ = some (.int .u8 (p.2.y2 : Int)) ∧ W.cell? ⟨g, 4, none⟩ = some (.int .u8 (p.2.y3 : Int)) ∧ W.cell? ⟨g, 5, none⟩ = some (.int .u8 (p.2.y4 : Int)) ∧ W.cell? ⟨g, 6, none⟩ = some (.int .u8 (p.2.y5 : Int)) ∧ HB B b m s w g p W := by
  obtain ⟨c0, c1, c2, c3, c4⟩ := h.tab.cells
  exact ⟨c0, c1, c2, c3, c4, cell_of_row _ _ _ _ _ _ h.box, cell_of_row _ _ _ _ _ _ h.box, cell_of_row _ _ _ _ _ _ h.box, cell_of_row _ _ _ _ _ _ h.box, cell_of_row _ _ _ _ _ _ h.box, cell_of_row _ _ _ _ _ _ h.box, cell_of_row _ _ _ _ _ _ h.box, h⟩
theorem HB.new (h : Tab B w b m s) (p : Pl) : HB B b m s w w.heap.size p (w.alloc (.cells #[.int .i64 p.1, .int .u8 (p.2.y0 : Int), .int .u8 (p.2.y1 : Int), .int .u8 (p.2.y2 : Int), .int .u8 (p.2.y3 : Int), .int .u8 (p.2.y4 : Int), .int .u8 (p.2.y5 : Int)] 42)) :=
  ⟨h.below (bAl (bRef w) _), heap_alloc_one w _, bAl (bRef w) _⟩
end
section
variable {B m : Nat} {w : World} {b : TB} {s : TS}
theorem hasRoom_any (h : Tab B w b m s) (hm : m ≤ 1000000) (p : Pl) (hp : p.Good) (hE : OkE s) : Calls Try.prog 35 #[.pointer (some ⟨b.t, 0, none⟩), PV p] w fun e w' => e = .returned (.bool (decide (whereV s p ≠ 0 ∨ ((s.S.length + s.E.length : Nat) : Int) < s.room))) ∧ Below w.heap.size w w' := by
  have H0 := Lib.hid (HB.new h p)
  obtain ⟨res, hres⟩ : ∃ res, decide (whereV s p ≠ 0 ∨ ((s.S.length + s.E.length : Nat) : Int) < s.room) = res := ⟨_, rfl⟩
  rw [hres]
  have HR := Lib.hid hres
  obtain ⟨u, hu⟩ : ∃ u, whereV s p = u := ⟨_, rfl⟩
  obtain ⟨N, hN⟩ : ∃ N : Int, ((s.S.length + s.E.length : Nat) : Int) = N := ⟨_, rfl⟩
  rw [hu, hN] at HR
  have HW : Hid (∀ W, Tab B W b m s → Calls Try.prog 30 #[.pointer (some ⟨b.t, 0, none⟩), PV p] W fun e w' => e = .returned (.int .i64 u) ∧ Below W.heap.size W w') := Lib.hid (fun W hW => by have k := where_any hW p hp hE.e; rw [hu] at k; exact k)
  have HLn : Hid (∀ W, Tab B W b m s → Calls Try.prog 13 #[.pointer (some ⟨b.t, 0, none⟩)] W fun e w' => e = .returned (.int .i64 N) ∧ Below W.heap.size W w') := Lib.hid (fun W hW => by have k := len_any hW hm; rw [hN] at k; exact k)
  have hu8 := whereV_cases hE p
  rw [hu] at hu8
  clear hres hu hN h
  by_cases h0 : u = 0
  · subst h0
    by_cases h1 : N < s.room
    · have d : decide (N < s.room) = true := decide_eq_true h1
      have hr9 := HR.out
      rw [show decide ((0 : Int) ≠ 0 ∨ N < s.room) = true from decide_eq_true (.inr h1)] at hr9
      subst hr9
      clear h1 HR
      go_enter Try.func35, Try.ntmps35
      go_wp2_with fail
      go_region_held3 (fun W => W.cell? ⟨b.t, 0, none⟩ = some (.slice (some ⟨b.p, 0, none⟩) s.n s.n) ∧ W.cell? ⟨b.t, 1, none⟩ = some (.int .i64 s.room) ∧ W.cell? ⟨b.t, 2, none⟩ = some (.map (some b.v)) ∧ W.cell? ⟨b.t, 3, none⟩ = some (.map (some b.s)) ∧ W.cell? ⟨b.t, 4, none⟩ = some (.map (some b.e)) ∧
    W.cell? ⟨w.heap.size, 0, none⟩ = some (.int .i64 p.1) ∧ W.cell? ⟨w.heap.size, 1, none⟩ = some (.int .u8 (p.2.y0 : Int)) ∧ W.cell? ⟨w.heap.size, 2, none⟩ = some (.int .u8 (p.2.y1 : Int)) ∧ W.cell? ⟨w.heap.size, 3, none⟩ = some (.int .u8 (p.2.y2 : Int)) ∧ W.cell? ⟨w.heap.size, 4, none⟩ = some (.int .u8 (p.2.y3 : Int)) ∧ W.cell? ⟨w.heap.size, 5, none⟩ = some (.int .u8 (p.2.y4 : Int)) ∧ W.cell? ⟨w.heap.size, 6, none⟩ = some (.int .u8 (p.2.y5 : Int)) ∧ HB B b m s w w.heap.size p W)
        (first | exact H0.out.drew.all | (go_split_ands; first | exact (HB.below (by assumption) hb1).all | exact (HB.below (by assumption) hb2).all))
        (first | (go_split_ands; go_at_call 30; (with_reducible refine (HW.out _ (HB.tab (by assumption))).mono ?_); rintro e w1 ⟨rfl, hb1⟩) | (go_split_ands; go_at_call 13; (with_reducible refine (HLn.out _ (HB.tab (by assumption))).mono ?_); rintro e w2 ⟨rfl, hb2⟩))
      all_goals
        go_split_ands
        go_wp2_with fail
        go_ret
        exact ⟨rfl, HB.bel (by assumption)⟩
    · have d : decide (N < s.room) = false := decide_eq_false h1
      have hr9 := HR.out
      rw [show decide ((0 : Int) ≠ 0 ∨ N < s.room) = false from decide_eq_false (fun h => h.elim (fun h => h rfl) h1)] at hr9
      subst hr9
      clear h1 HR
      go_enter Try.func35, Try.ntmps35
      go_wp2_with fail
      go_region_held3 (fun W => W.cell? ⟨b.t, 0, none⟩ = some (.slice (some ⟨b.p, 0, none⟩) s.n s.n) ∧ W.cell? ⟨b.t, 1, none⟩ = some (.int .i64 s.room) ∧ W.cell? ⟨b.t, 2, none⟩ = some (.map (some b.v)) ∧ W.cell? ⟨b.t, 3, none⟩ = some (.map (some b.s)) ∧ W.cell? ⟨b.t, 4, none⟩ = some (.map (some b.e)) ∧
    W.cell? ⟨w.heap.size, 0, none⟩ = some (.int .i64 p.1) ∧ W.cell? ⟨w.heap.size, 1, none⟩ = some (.int .u8 (p.2.y0 : Int)) ∧ W.cell? ⟨w.heap.size, 2, none⟩ = some (.int .u8 (p.2.y1 : Int)) ∧ W.cell? ⟨w.heap.size, 3, none⟩ = some (.int .u8 (p.2.y2 : Int)) ∧ W.cell? ⟨w.heap.size, 4, none⟩ = some (.int .u8 (p.2.y3 : Int)) ∧ W.cell? ⟨w.heap.size, 5, none⟩ = some (.int .u8 (p.2.y4 : Int)) ∧ W.cell? ⟨w.heap.size, 6, none⟩ = some (.int .u8 (p.2.y5 : Int)) ∧ HB B b m s w w.heap.size p W)
        (first | exact H0.out.drew.all | (go_split_ands; first | exact (HB.below (by assumption) hb1).all | exact (HB.below (by assumption) hb2).all))
        (first | (go_split_ands; go_at_call 30; (with_reducible refine (HW.out _ (HB.tab (by assumption))).mono ?_); rintro e w1 ⟨rfl, hb1⟩) | (go_split_ands; go_at_call 13; (with_reducible refine (HLn.out _ (HB.tab (by assumption))).mono ?_); rintro e w2 ⟨rfl, hb2⟩))
      all_goals
        go_split_ands
        go_wp2_with fail
        go_ret
        exact ⟨rfl, HB.bel (by assumption)⟩
  · have hr9 := HR.out
    rw [show decide (u ≠ 0 ∨ N < s.room) = true from decide_eq_true (.inl h0)] at hr9
    subst hr9
    have d : (u != 0) = true := by rw [bne_iff_ne]; exact h0
    clear HR hu8 h0
    go_enter Try.func35, Try.ntmps35
    go_wp2_with fail
    have H1 := H0.out.drew
    refine wp_region_held_drew (S := fun W => HB B b m s w w.heap.size p W) (by kernel_rfl) H1 (fun _ => ?_)
    refine hTake (i := 0) (k := 5) (v := .pointer (some ⟨b.t, 0, none⟩)) rfl rfl (by kernel_rfl) (by kernel_rfl) (by kernel_rfl) (fun _ _ _ h => h) (yieldsIf_val (by rfl) (by intro W; go_simp)) H1 ?_
    simp only [List.setIfInBounds_toArray, List.set_cons_zero, List.set_cons_succ]
    refine hTake (i := 1) (k := 6) (v := .agg #[.int .i64 p.1, .int .u8 (p.2.y0 : Int), .int .u8 (p.2.y1 : Int), .int .u8 (p.2.y2 : Int), .int .u8 (p.2.y3 : Int), .int .u8 (p.2.y4 : Int), .int .u8 (p.2.y5 : Int)]) rfl rfl (by kernel_rfl) (by kernel_rfl) (by kernel_rfl) (fun _ _ _ h => h) (.inl ⟨by rfl, fun W hW => by obtain ⟨c0, c1, c2, c3, c4, k0, k1, k2, k3, k4, k5, k6, -⟩ := hW.all; go_simp⟩) H1 ?_
    simp only [List.setIfInBounds_toArray, List.set_cons_zero, List.set_cons_succ]
    refine hCall (i := 2) (k := 7) (by kernel_rfl) rfl rfl (by rfl) 30 #[.pointer (some ⟨b.t, 0, none⟩), .agg #[.int .i64 p.1, .int .u8 (p.2.y0 : Int), .int .u8 (p.2.y1 : Int), .int .u8 (p.2.y2 : Int), .int .u8 (p.2.y3 : Int), .int .u8 (p.2.y4 : Int), .int .u8 (p.2.y5 : Int)]] (by intro W; go_simp) (.int .i64 u) (fun W hW => (HW.out W hW.tab).mono fun e W' hh => ⟨hh.1, hW.below hh.2⟩) H1 (fun W2 H2 => ?_)
    simp only [List.setIfInBounds_toArray, List.set_cons_zero, List.set_cons_succ]
    refine hTake (i := 3) (k := 8) (v := .bool true) rfl rfl (by kernel_rfl) (by kernel_rfl) (by kernel_rfl) (fun _ _ _ h => h) (yieldsIf_val (by rfl) (by intro W; go_simp)) H2 ?_
    simp only [List.setIfInBounds_toArray, List.set_cons_zero, List.set_cons_succ]
    refine hTake (i := 4) (k := 9) (v := .bool true) rfl rfl (by kernel_rfl) (by kernel_rfl) (by kernel_rfl) (fun _ _ _ h => h) (yieldsIf_val (by rfl) (by intro W; go_simp)) H2 ?_
    simp only [List.setIfInBounds_toArray, List.set_cons_zero, List.set_cons_succ]
    refine hTake (i := 5) (k := 10) (v := undef) rfl rfl (by kernel_rfl) (by kernel_rfl) (by kernel_rfl) (fun _ _ _ h => h) (yieldsIf_skip (by rfl)) H2 ?_
    simp only [List.setIfInBounds_toArray, List.set_cons_zero, List.set_cons_succ]
    refine hTake (i := 6) (k := 11) (v := undef) rfl rfl (by kernel_rfl) (by kernel_rfl) (by kernel_rfl) (fun _ _ _ h => h) (yieldsIf_skip (by rfl)) H2 ?_
    simp only [List.setIfInBounds_toArray, List.set_cons_zero, List.set_cons_succ]
    refine hTake (i := 7) (k := 12) (v := undef) rfl rfl (by kernel_rfl) (by kernel_rfl) (by kernel_rfl) (fun _ _ _ h => h) (yieldsIf_skip (by rfl)) H2 ?_
    simp only [List.setIfInBounds_toArray, List.set_cons_zero, List.set_cons_succ]
    refine hTake (i := 8) (k := 13) (v := undef) rfl rfl (by kernel_rfl) (by kernel_rfl) (by kernel_rfl) (fun _ _ _ h => h) (yieldsIf_skip (by rfl)) H2 ?_
    simp only [List.setIfInBounds_toArray, List.set_cons_zero, List.set_cons_succ]
    refine hTake (i := 9) (k := 14) (v := undef) rfl rfl (by kernel_rfl) (by kernel_rfl) (by kernel_rfl) (fun _ _ _ h => h) (yieldsIf_skip (by rfl)) H2 ?_
    simp only [List.setIfInBounds_toArray, List.set_cons_zero, List.set_cons_succ]
    refine hTake (i := 10) (k := 15) (v := undef) rfl rfl (by kernel_rfl) (by kernel_rfl) (by kernel_rfl) (fun _ _ _ h => h) (yieldsIf_skip (by rfl)) H2 ?_
    simp only [List.setIfInBounds_toArray, List.set_cons_zero, List.set_cons_succ]
    refine hTake (i := 11) (k := 16) (v := undef) rfl rfl (by kernel_rfl) (by kernel_rfl) (by kernel_rfl) (fun _ _ _ h => h) (yieldsIf_skip (by rfl)) H2 ?_
    simp only [List.setIfInBounds_toArray, List.set_cons_zero, List.set_cons_succ]
    refine hTake (i := 12) (k := 17) (v := .bool true) rfl rfl (by kernel_rfl) (by kernel_rfl) (by kernel_rfl) (fun _ _ _ h => h) (yieldsIf_val (by rfl) (by intro W; go_simp)) H2 ?_
    simp only [List.setIfInBounds_toArray, List.set_cons_zero, List.set_cons_succ]
    refine hTake (i := 13) (k := 4) (v := .bool true) rfl rfl (by kernel_rfl) (by kernel_rfl) (by kernel_rfl) (fun _ _ _ h => h) (yieldsIf_val (by rfl) (by intro W; go_simp)) H2 ?_
    simp only [List.setIfInBounds_toArray, List.set_cons_zero, List.set_cons_succ]
    refine wpAnyH_done (by kernel_rfl) ?_ _
    go_wp2_with fail
    go_ret
    exact ⟨rfl, H2.bel⟩
end

end Go.Proofs.Ytkbodcgamfkegaa
