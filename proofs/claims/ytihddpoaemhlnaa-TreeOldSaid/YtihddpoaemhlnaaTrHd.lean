/- The laws of package tree: their head. -/
import Derived.Test.YtihddpoaemhlnaaTrHead
namespace Go.Proofs.Ytihddpoaemhlnaa
open Go.RowKit Go.Joins Go.Deep

theorem OutQ.yes {w w' : World} {om : Mg} {e : Ending} (h : OutQ w true om e w') : ∃ p c, e = .returned (.tuple #[.agg (MC om (.slice p om.path.length c)), .bool true]) ∧ OwnR C1 3 1 w.heap.size w' (.slice p om.path.length c) om.path ∧ Below w.heap.size w w' := by
  obtain ⟨hb, ⟨h, _⟩ | ⟨_, u, h, hu⟩⟩ := h
  · cases h
  · obtain ⟨p, c, rfl⟩ := hu.slice
    exact ⟨p, c, h, hu, hb⟩
theorem OutQ.no {w w' : World} {om : Mg} {e : Ending} (h : OutQ w false om e w') : e = .returned (.tuple #[.agg #[.int .i64 0, .int .i64 0, .int .i64 0, .int .i64 0, .int .i64 0, .int .i64 0, .int .i64 0, .int .i64 0, .int .i64 0, .int .i64 0, .int .i64 0, .int .i64 0, .int .i64 0, .int .i64 0, .int .i64 0, .slice none 0 0], .bool false]) ∧ Below w.heap.size w w' := by
  obtain ⟨hb, ⟨_, h⟩ | ⟨h, _⟩⟩ := h
  · exact ⟨h, hb⟩
  · cases h
theorem zero_in64 : In64 0 := ⟨by decide, by decide⟩
theorem small_in64 {x : Int} (h : 0 ≤ x) (h1 : x < 2147483648) : In64 x := ⟨by omega, by omega⟩
theorem exA_ok : exA.Ok := (newT_ok (by kernel_rfl)).upd _ _
theorem exB_ok : exB.Ok := (newT_ok (by kernel_rfl)).upd _ _
theorem exB2_ok : exB2.Ok := exB_ok.inT _ _ _ zero_in64 (by intro x hx; simp [exM] at hx; subst hx; exact small_in64 (by decide) (by decide))
theorem exA_fit : exA.Fit := (newT_fit zero_in64 ⟨small_in64 (by decide) (by decide), zero_in64, zero_in64, small_in64 (by decide) (by decide)⟩).upd _ _
theorem exM_wf : exM.Wf := ⟨small_in64 (by decide) (by decide), zero_in64, small_in64 (by decide) (by decide), small_in64 (by decide) (by decide), zero_in64, zero_in64, zero_in64, zero_in64, zero_in64, zero_in64, small_in64 (by decide) (by decide), zero_in64, zero_in64, small_in64 (by decide) (by decide), zero_in64, by intro x hx; simp [exM] at hx; subst hx; exact small_in64 (by decide) (by decide)⟩
/-- Two trees in a world that came of w. -/
structure HS (w W : World) (bA gA bB gB : Nat) (tA tB : Ts) : Prop where
  bel : Below w.heap.size w W
  ta : Tr W bA gA tA
  tb : Tr W bB gB tB
  la : w.heap.size ≤ gA
  lb : w.heap.size ≤ gB
  ne : gA ≠ gB
section
variable {w W W' : World} {bA gA bB gB : Nat} {tA tB t' : Ts}
theorem HS.below (h : HS w W bA gA bB gB tA tB) (hb : Below W.heap.size W W') : HS w W' bA gA bB gB tA tB := ⟨bTr h.bel hb, h.ta.below hb, h.tb.below hb, h.la, h.lb, h.ne⟩
theorem HS.setA (h : HS w W bA gA bB gB tA tB) (hl : LeaveT bA gA W t' W') : HS w W' bA gA bB gB t' tB :=
  ⟨hl.2.from_ h.bel h.la, hl.1, by obtain ⟨cs, h1⟩ := h.ta.tag; exact h.tb.other hl.2 h1 h.ne, h.la, h.lb, h.ne⟩
theorem HS.setB (h : HS w W bA gA bB gB tA tB) (hl : LeaveT bB gB W t' W') : HS w W' bA gA bB gB tA t' :=
  ⟨hl.2.from_ h.bel h.lb, by obtain ⟨cs, h1⟩ := h.tb.tag; exact h.ta.other hl.2 h1 (fun e => h.ne e.symm), hl.1, h.la, h.lb, h.ne⟩
end
theorem exA_new (W : World) : Calls Try.prog 22 #[.int .i64 0, .agg #[.int .i64 1, .int .i64 0, .int .i64 0, .int .i64 1], .int .i64 1, .int .i64 100] W fun e w' => ∃ b g, e = .returned (.tuple #[.pointer (some ⟨b, 0, none⟩), .int .i64 0]) ∧ Tr w' b g (newT 0 ⟨1, 0, 0, 1⟩ 1 100) ∧ W.heap.size ≤ b ∧ W.heap.size ≤ g ∧ Below W.heap.size W w' :=
  new_ok 0 ⟨1, 0, 0, 1⟩ 1 100 W (by kernel_rfl) zero_in64 ⟨small_in64 (by decide) (by decide), zero_in64, zero_in64, small_in64 (by decide) (by decide)⟩
theorem exB_new (W : World) : Calls Try.prog 22 #[.int .i64 0, .agg #[.int .i64 2, .int .i64 0, .int .i64 0, .int .i64 2], .int .i64 1, .int .i64 100] W fun e w' => ∃ b g, e = .returned (.tuple #[.pointer (some ⟨b, 0, none⟩), .int .i64 0]) ∧ Tr w' b g (newT 0 ⟨2, 0, 0, 2⟩ 1 100) ∧ W.heap.size ≤ b ∧ W.heap.size ≤ g ∧ Below W.heap.size W w' :=
  new_ok 0 ⟨2, 0, 0, 2⟩ 1 100 W (by kernel_rfl) zero_in64 ⟨small_in64 (by decide) (by decide), zero_in64, zero_in64, small_in64 (by decide) (by decide)⟩
theorem exA_outs {W : World} {b g : Nat} (h : Tr W b g exA) : Calls Try.prog 24 #[.pointer (some ⟨b, 0, none⟩), .int .i64 0, .int .i64 1, .int .i64 0] W fun e w' => ∃ pa pc, e = .returned (.tuple #[.agg #[.int .i64 11, .int .i64 0, .int .i64 1, .int .i64 1, .int .i64 0, .int .i64 0, .int .i64 0, .int .i64 0, .int .i64 0, .int .i64 0, .int .i64 1, .int .i64 0, .int .i64 0, .int .i64 1, .int .i64 0, .slice pa 1 pc], .bool true]) ∧ OwnR C1 3 1 W.heap.size w' (.slice pa 1 pc) [1] ∧ Below W.heap.size W w' := by
  refine (out_any h exA_ok exA_fit 0 1 0 zero_in64 (small_in64 (by decide) (by decide)) zero_in64).mono fun e w' hq => ?_
  rw [exA_out, exA_msg] at hq
  exact hq.yes
theorem exB_ins {W : World} {b g : Nat} {pa : Option Addr} {pc : Nat} (h : Tr W b g exB) (hu : LArg W (.slice pa 1 pc) [1]) : Calls Try.prog 27 #[.pointer (some ⟨b, 0, none⟩), .int .i64 0, .agg #[.int .i64 11, .int .i64 0, .int .i64 1, .int .i64 1, .int .i64 0, .int .i64 0, .int .i64 0, .int .i64 0, .int .i64 0, .int .i64 0, .int .i64 1, .int .i64 0, .int .i64 0, .int .i64 1, .int .i64 0, .slice pa 1 pc], .int .i64 0] W fun e w' => e = .returned (.int .i64 0) ∧ LeaveT b g W exB2 w' := by
  refine (in_any h exB_ok 0 exM (.slice pa 1 pc) 0 exM_wf hu (by decide)).mono fun e w' hq => ?_
  rw [exB_in] at hq
  exact hq
theorem exB_bests {W : World} {b g : Nat} (h : Tr W b g exB2) : Calls Try.prog 23 #[.pointer (some ⟨b, 0, none⟩), .int .i64 5] W fun e w' => ∃ q, e = .returned (.tuple #[.agg #[.int .i64 1, .int .i64 0, .int .i64 0, .int .i64 1, .int .i64 0, .int .i64 1, .int .i64 0, .int .i64 0], .slice (some ⟨q, 0, none⟩) 1 1]) ∧ W.heap.size ≤ q ∧ w'.heap[q]? = some (.cells #[.int .i64 2] 3 (0, 0)) ∧ Below W.heap.size W w' := by
  refine (best_any h exB2_ok 5 (small_in64 (by decide) (by decide))).mono fun e w' hq => ?_
  rw [exB_best, exB_roles] at hq
  exact hq
theorem exA_roots {W : World} {b g : Nat} (h : Tr W b g exA) : Calls Try.prog 26 #[.pointer (some ⟨b, 0, none⟩), .int .i64 5] W fun e w' => e = .returned (.bool true) ∧ Below W.heap.size W w' := by
  refine (root_any h exA_ok 5 (small_in64 (by decide) (by decide))).mono fun e w' hq => ?_
  rw [exA_root] at hq
  exact hq
theorem exB_roots {W : World} {b g : Nat} (h : Tr W b g exB2) : Calls Try.prog 26 #[.pointer (some ⟨b, 0, none⟩), .int .i64 5] W fun e w' => e = .returned (.bool false) ∧ Below W.heap.size W w' := by
  refine (root_any h exB2_ok 5 (small_in64 (by decide) (by decide))).mono fun e w' hq => ?_
  rw [exB_best] at hq
  exact hq
set_option maxHeartbeats 2000000 in
theorem head20_ret : Ret 21 #[] (.bool true) := fun w => by
  have HNA := Lib.hid (fun W => exA_new W)
  have HNB := Lib.hid (fun W => exB_new W)
  have HUp := Lib.hid (fun (W : World) (b g : Nat) (t : Ts) (h : Tr W b g t) => up_any h 0 true)
  have HO := Lib.hid (fun (W : World) (b g : Nat) (h : Tr W b g exA) => exA_outs h)
  have HI := Lib.hid (fun (W : World) (b g : Nat) (pa : Option Addr) (pc : Nat) (h : Tr W b g exB) (hu : LArg W (.slice pa 1 pc) [1]) => exB_ins h hu)
  have HBs := Lib.hid (fun (W : World) (b g : Nat) (h : Tr W b g exB2) => exB_bests h)
  have HRA := Lib.hid (fun (W : World) (b g : Nat) (h : Tr W b g exA) => exA_roots h)
  have HRB := Lib.hid (fun (W : World) (b g : Nat) (h : Tr W b g exB2) => exB_roots h)
  go_enter Try.func21, Try.ntmps21
  go_wp2_with (first
    | (go_at_call 22; (with_reducible refine (HNA.out _).mono ?_); rintro e w1 ⟨bA, gA, rfl, hta, _, hga, hb1⟩; have HTA := Lib.hid hta; have HB1 := Lib.hid hb1; have HgA := Lib.hid hga; clear hta hb1 hga)
    | (go_at_call 22; (with_reducible refine (HNB.out _).mono ?_); rintro e w2 ⟨bB, gB, rfl, htb, _, hgb, hb2⟩; have HS0 : Hid (HS w w2 bA gA bB gB _ _) := Lib.hid ⟨bTr HB1.out hb2, HTA.out.below hb2, htb, HgA.out, Nat.le_trans HB1.out.size hgb, fun e => by have := HTA.out.glt; omega⟩; clear htb hb2 hgb HTA HB1 HgA)
    | (go_at_call 25; (with_reducible refine (HUp.out _ _ _ _ HS0.out.ta).mono ?_); rintro e w3 ⟨rfl, hl⟩; have HS1 := Lib.hid (HS0.out.setA hl); clear hl)
    | (go_at_call 25; (with_reducible refine (HUp.out _ _ _ _ HS1.out.tb).mono ?_); rintro e w4 ⟨rfl, hl⟩; have HS2 : Hid (HS w w4 bA gA bB gB exA exB) := Lib.hid (HS1.out.setB hl); clear hl)
    | (go_at_call 24; (with_reducible refine (HO.out _ _ _ HS2.out.ta).mono ?_); rintro e w5 ⟨pa, pc, rfl, hu, hb⟩; have HS3 := Lib.hid ((HS2.out.below hb).below (bAl (bRef w5) (.cells #[.int .i64 11, .int .i64 0, .int .i64 1, .int .i64 1, .int .i64 0, .int .i64 0, .int .i64 0, .int .i64 0, .int .i64 0, .int .i64 0, .int .i64 1, .int .i64 0, .int .i64 0, .int .i64 1, .int .i64 0, .slice pa 1 pc] 58))); have HU := Lib.hid (((own_pa hu).below (bAl (bRef w5) (.cells #[.int .i64 11, .int .i64 0, .int .i64 1, .int .i64 1, .int .i64 0, .int .i64 0, .int .i64 0, .int .i64 0, .int .i64 0, .int .i64 0, .int .i64 1, .int .i64 0, .int .i64 0, .int .i64 1, .int .i64 0, .slice pa 1 pc] 58))).larg (by intro x hx; simp at hx; subst hx; exact small_in64 (by decide) (by decide))); clear hu hb)
    | ((with_reducible refine at_storeM ?_); refine wpList_storeNW rfl _ _ _ rfl w5.heap.size rfl #[.int .i64 11, .int .i64 0, .int .i64 1, .int .i64 1, .int .i64 0, .int .i64 0, .int .i64 0, .int .i64 0, .int .i64 0, .int .i64 0, .int .i64 1, .int .i64 0, .int .i64 0, .int .i64 1, .int .i64 0, .slice pa 1 pc] _ _ rfl rfl (by simp [Value.oneCell']) (by kernel_rfl) rfl ?_)
    | ((with_reducible refine at_loadM ?_); refine wpList_loadW rfl _ _ rfl w5.heap.size 0 rfl #[.int .i64 11, .int .i64 0, .int .i64 1, .int .i64 1, .int .i64 0, .int .i64 0, .int .i64 0, .int .i64 0, .int .i64 0, .int .i64 0, .int .i64 1, .int .i64 0, .int .i64 0, .int .i64 1, .int .i64 0, .slice pa 1 pc] _ (range_whole (heap_alloc_new w5 _)) Try.underlying58 rfl (by kernel_rfl) ?_)
    | (go_at_call 27; (with_reducible refine (HI.out _ _ _ _ _ HS3.out.tb HU.out).mono ?_); rintro e w6 ⟨rfl, hl⟩; have HS4 := Lib.hid (HS3.out.setB hl); clear hl)
    | (go_at_call 23; (with_reducible refine (HBs.out _ _ _ HS4.out.tb).mono ?_); rintro e w7 ⟨q, rfl, hq, hrow, hb⟩; have k0 : w7.cell? ⟨q, 0, none⟩ = some (.int .i64 2) := cell_of_row _ _ 0 _ _ _ hrow; have hql : q < w7.heap.size := lt_of_heap hrow; have HS5 := Lib.hid ((HS4.out.below hb).below (bAl (bRef w7) (.cells #[.int .i64 1, .int .i64 0, .int .i64 0, .int .i64 1, .int .i64 0, .int .i64 1, .int .i64 0, .int .i64 0] 25))); clear hb hq hrow)
    | (go_at_call 26; (with_reducible refine (HRA.out _ _ _ HS5.out.ta).mono ?_); rintro e w8 ⟨rfl, hb⟩; have HS6 := Lib.hid (HS5.out.below hb); clear hb)
    | (go_at_call 26; (with_reducible refine (HRB.out _ _ _ HS6.out.tb).mono ?_); rintro e w9 ⟨rfl, hb⟩; have HS7 := Lib.hid (HS6.out.below hb); clear hb))
  go_ret
  exact ⟨rfl, HS7.out.bel⟩

end Go.Proofs.Ytihddpoaemhlnaa
