/- The reference's Decode, whatever the bytes. Written by gen_ptref11.py. -/
import Derived.Test.YtcdcklkbjfhhnaaPtRef14
namespace Go.Proofs.Ytcdcklkbjfhhnaa
open Go.RowKit Go.Joins Go.Deep

set_option maxRecDepth 1000000 in
set_option maxHeartbeats 16000000 in
/-- The reference's Decode where there is no such kind. -/
theorem rdec_no (b o c n : Nat) (w : World) (y k : Int) (h20 : 20 ≤ n) (y0 : 16 ≤ y ∧ y ≤ 31) (h0 : y = k + 16) (hk : ¬ (k = 0 ∨ k = 2 ∨ k = 3 ∨ k = 8 ∨ k = 10 ∨ k = 11)) (hcell : w.cell? ⟨b, o, none⟩ = some (.int .u8 y)) :
    Calls Try.prog 17 #[.slice (some ⟨b, o, none⟩) n c] w (NoMsg w 23) := by
  have hd1 : decide ((n : Int) < 20) = false := decide_eq_false (by omega)
  have hk1 := fun ob => (Below.cell (bAl (bRef w) ob) (cell_ltS hcell)).trans hcell
  have hk2 := fun ob ob2 => (Below.cell (bAl (bAl (bRef w) ob) ob2) (cell_ltS hcell)).trans hcell
  have i0 : (0 : Int) < (n : Int) := by omega
  have d1 : decide (y < 16) = false := decide_eq_false (by omega)
  have d2 : decide (31 < y) = false := decide_eq_false (by omega)
  have HFD := Lib.hid (fun W => fields_no k W (beq_eq_false_iff_ne.mpr (by omega)) (beq_eq_false_iff_ne.mpr (by omega)) (beq_eq_false_iff_ne.mpr (by omega)) (beq_eq_false_iff_ne.mpr (by omega)) (beq_eq_false_iff_ne.mpr (by omega)) (beq_eq_false_iff_ne.mpr (by omega)))
  have ey0 : wrap64 y = y := by unfold wrap64; omega
  have ey1 : IntKind.i64.wrap y = y := by rw [IntKind.wrap_i64]; omega
  have ey : wrap64 (y - 16) = k := by unfold wrap64; omega
  have ey2 : IntKind.i64.wrap (y - 16) = k := by rw [IntKind.wrap_i64]; omega
  clear h20 hk h0 y0
  go_enter Try.func17, Try.ntmps17
  go_upto_region 7 with (first
    | ((with_reducible refine at_buildR ?_); refine wpList_buildR rfl rfl ?_)
    | ((with_reducible refine at_storeS ?_); refine wpList_storeNS (w := w.alloc _) rfl _ _ rfl (w.heap.size + 1) (by simp) ZC _ rfl rfl (MC_one Mg.zero none 0 0) rfl rfl ?_))
  change Code.wp _ _ _ _ ((w.alloc (.cells ZC 38 (0, 0))).alloc (.cells (ZC.setIfInBounds 0 (.int .i64 k)) 38 (0, 0)))
  have hs0 : (w.alloc (.cells ZC 38 (0, 0))).heap.size = w.heap.size + 1 := by simp
  have hbx : BoxS ((w.alloc (.cells ZC 38 (0, 0))).alloc (.cells (ZC.setIfInBounds 0 (.int .i64 k)) 38 (0, 0))) (w.heap.size + 1) (ofN (start6 k) []) (.slice none 0 0) := by
    have := heap_alloc_new (w.alloc (.cells ZC 38 (0, 0))) (.cells (ZC.setIfInBounds 0 (.int .i64 k)) 38 (0, 0))
    rw [hs0] at this
    exact this
  have hD0 : DR w (w.heap.size + 1) (start6 k) [] (.slice none 0 0) ((w.alloc (.cells ZC 38 (0, 0))).alloc (.cells (ZC.setIfInBounds 0 (.int .i64 k)) 38 (0, 0))) :=
    ⟨hbx, by simp [start6], ((bAl (bRef (w.alloc (.cells ZC 38 (0, 0)))) _).block _ (by simp)).trans (heap_alloc_new w _), bAl (bAl (bRef w) _) _, by omega⟩
  have HD0 := Lib.hid hD0
  have hzz : ((w.alloc (.cells ZC 38 (0, 0))).alloc (.cells (ZC.setIfInBounds 0 (.int .i64 k)) 38 (0, 0))).cell? ⟨w.heap.size + 1, 0, none⟩ = some (.int .i64 k) := cell_of_row _ _ _ _ _ _ hbx
  clear hs0 hbx hD0 hk1 hk2 hcell
  generalize ((w.alloc (.cells ZC 38 (0, 0))).alloc (.cells (ZC.setIfInBounds 0 (.int .i64 k)) 38 (0, 0))) = w1 at *
  generalize hg : w.heap.size + 1 = g at *
  go_wp2_with (first
    | (go_at_call 20; (with_reducible refine (HFD.out _).mono ?_); rintro e w2 ⟨g1, cc, rfl, hp, hb⟩; have HD := Lib.hid (HD0.out.below hb); clear hp hb; try dsimp only)
    | ((with_reducible refine at_buildR ?_); refine wpList_buildR rfl rfl ?_)
    | ((with_reducible refine at_storeS ?_); refine wpList_storeS rfl _ _ rfl w.heap.size ZC rfl rfl (MC_one Mg.zero none 0 0) rfl _ HD.out.zero rfl ?_))
  refine bodyS2 rfl w.heap.size ZC _ rfl rfl (setRow_heap _ _ _ _ _ _ HD.out.zero) rfl rfl ?_
  exact ⟨rfl, bRowS HD.out.bel⟩
theorem NoMsg.dec {w : World} {x : Nat} {e : Ending} {w' : World} (h : NoMsg w x e w') : DecR w Mg.zero (x : Int) e w' := ⟨none, 0, 0, h.1, h.2, zero_arg _⟩
/-- The reference's Decode, whatever the bytes. -/
theorem rdecode_any {v : Value} {xs : List Nat} {w : World} (h : BArg w v xs) (hl : xs.length < 140737488355328) : Calls Try.prog 17 #[v] w (DecR w (dres xs).2 ((dres xs).1 : Int)) := by
  rw [← rres_dres h.1]
  unfold rres
  by_cases h20 : xs.length < 20
  · obtain ⟨p, c, rfl⟩ := h.slice
    rw [if_pos h20]
    exact (rdec_short p _ c w h20).mono fun e w' hh => hh.dec
  rw [if_neg h20]
  have hx := h.1
  rcases h.2 with ⟨e, _⟩ | ⟨h0, b, o, c, rfl, hc, hr⟩
  · rw [e] at h20; simp at h20
  have hy8 := Crc.getD_byte hx 0
  have hv : nval xs s0 1 = ((xs.getD 0 0 : Nat) : Int) := (nval1 (by omega)).resolve_right (by omega)
  have hcell : w.cell? ⟨b, o, none⟩ = some (.int .u8 ((xs.getD 0 0 : Nat) : Int)) := (hr h0).2 0 h0
  rw [hv]
  by_cases hb : ((xs.getD 0 0 : Nat) : Int) < 16 ∨ 31 < ((xs.getD 0 0 : Nat) : Int)
  · rw [if_pos hb]
    exact (rdec_byte b o xs.length c _ w (by omega) (by omega) hcell).mono fun e w' hh => hh.dec
  rw [if_neg hb]
  cases hkb : kindB (((xs.getD 0 0 : Nat) : Int) - 16) with
  | false =>
    rw [if_pos rfl]
    exact (rdec_no b o c xs.length w _ (((xs.getD 0 0 : Nat) : Int) - 16) (by omega) (by omega) (by omega) (fun h => by rw [kindB_iff.2 h] at hkb; cases hkb) hcell).mono fun e w' hh => hh.dec
  | true =>
    rw [if_neg (by simp)]
    exact rdec_kind b o c xs w _ hx hr hl hc (by omega) (kinds6 hkb) (by omega)

end Go.Proofs.Ytcdcklkbjfhhnaa
