/- For whatever bytes PtpReads answers true: they are read as the document's answer, and stay as they were. No condition. Written by gen_ptref11.py. -/
import Derived.Test.YtcdcklkbjfhhnaaFPtpReads
import Derived.Test.YtcdcklkbjfhhnaaPtRef15
namespace Go.Proofs.Ytcdcklkbjfhhnaa
open Go.RowKit Go.Joins Go.Deep

theorem yieldsIf_loadS {ops : Array Oper} {S : World → Prop} {a : Act} {o : Oper} (hw : Region.wanted o (yielded ops a.tmps) = true) (x : Operand) (ho : o.op = .load 38 x) (g : Nat) (hx : a.eval x = .pointer (some ⟨g, 0, none⟩))
    (m : Mg) (u : Value) (hS : ∀ W, S W → BoxS W g m u) : YieldsIf Try.prog ops S o (.agg (MC m u)) a :=
  .inl ⟨hw, fun W hW => by
    have h := run_loadVar_row W g 38 38 (MC m u) (0, 0) _ (hS W hW) Try.underlying38 rfl (by kernel_rfl)
    unfold execOp
    simp only [ho, hx, Instr.loadAt, Instr.sureAddr, Sem.run_bind, Sem.run_pure, Result.andThen_ok, h]⟩
/-- What holds of the world between the calls. -/
structure ReM (w : World) (g4 g6 : Nat) (m : Mg) (v4 v6 v3 v0 : Value) (xs : List Nat) (W : World) : Prop where
  b4 : Boxed W g4 m v4
  b6 : BoxS W g6 m v6
  l4 : LArg W v4 m.path
  l6 : LArg W v6 m.path
  a3 : BArg W v3 xs
  a0 : BArg W v0 xs
  bel : Below w.heap.size w W
theorem ReM.call {w W W' : World} {g4 g6 : Nat} {m : Mg} {v4 v6 v3 v0 : Value} {xs : List Nat} (h : ReM w g4 g6 m v4 v6 v3 v0 xs W) (hb : Below W.heap.size W W') : ReM w g4 g6 m v4 v6 v3 v0 xs W' :=
  ⟨h.b4.below hb, h.b6.below hb, h.l4.below hb, h.l6.below hb, h.a3.below hb, h.a0.below hb, bTr h.bel hb⟩
theorem reads_long (p : Option Addr) (n c : Nat) (w : World) (h : 500 < n) : Calls Try.prog 4 #[.slice p n c] w fun e w' => e = .returned (.bool true) ∧ Below w.heap.size w w' := by
  have HH := head_ret
  have hd1 : decide ((500 : Int) < (n : Int)) = true := decide_eq_true (by omega)
  clear h
  go_enter Try.func4, Try.ntmps4
  go_wp2_with (go_at_call 8; (with_reducible refine (HH.go _).mono ?_); rintro e w1 ⟨rfl, hb⟩; have HB := Lib.hid hb; clear hb)
  go_ret
  exact ⟨rfl, HB.out⟩
set_option maxRecDepth 100000 in
set_option maxHeartbeats 4000000 in
theorem reads_any (p : Option Addr) (n c : Nat) (xs : List Nat) (w : World) (h : n ≤ 500) (hn : n = xs.length) (ha : BArg w (.slice p n c) xs) : Calls Try.prog 4 #[.slice p n c] w fun e w' => e = .returned (.bool true) ∧ Below w.heap.size w w' := by
  have HH := head_ret
  have hd1 : decide ((500 : Int) < (n : Int)) = false := decide_eq_false (by omega)
  have hlen : xs.length < 140737488355328 := by omega
  have HLE := Lib.hid hlen
  have HA := Lib.hid ha
  have hmp : (dres xs).2.path.length ≤ 140737488355328 := by
    by_cases e : (dres xs).1 = 0
    · have := (dres_ok ha.1 e).2.2.2.1; omega
    · rw [dres_bad e]; simp [Mg.zero]
  have HDP : Hid (∀ W v, BArg W v xs → Calls Try.prog 14 #[v] W (DecR W (dres xs).2 ((dres xs).1 : Int))) := Lib.hid (fun W v hv => decode_any hv hlen)
  have HDR : Hid (∀ W v, BArg W v xs → Calls Try.prog 17 #[v] W (DecR W (dres xs).2 ((dres xs).1 : Int))) := Lib.hid (fun W v hv => rdecode_any hv hlen)
  obtain ⟨m, hm⟩ : ∃ m, m = (dres xs).2 := ⟨_, rfl⟩
  obtain ⟨x, hxx⟩ : ∃ x : Int, x = ((dres xs).1 : Int) := ⟨_, rfl⟩
  rw [← hm, ← hxx] at HDP HDR
  rw [← hm] at hmp
  have HMP := Lib.hid hmp
  clear h hn ha hlen hmp hm hxx
  go_enter Try.func4, Try.ntmps4
  go_upto_region 8 with (first
    | (go_at_call 8; (with_reducible refine (HH.go _).mono ?_); rintro e w1 ⟨rfl, hb⟩; have HB := Lib.hid hb; have HA1 := Lib.hid (HA.out.below hb); clear hb)
    | (go_at_call 16; (with_reducible refine (copy_any HA1.out (Nat.le_of_lt HLE.out)).mono ?_); rintro e w2 ⟨v3, rfl, hown⟩; have hb := hown.bel; have HC2 := Lib.hid hown.arg; have HA2 := Lib.hid (HA1.out.below hb); have HB2 := Lib.hid (bTr HB.out hb); clear hb hown)
    | (go_at_call 14; (with_reducible refine (HDP.out _ _ HC2.out).mono ?_); rintro e w3 ⟨p4, n4, c4, rfl, hb, harg⟩; have HM3 := Lib.hid harg; have HC3 := Lib.hid (HC2.out.below hb); have HA3 := Lib.hid (HA2.out.below hb); have HB3 := Lib.hid (bTr HB2.out hb); clear hb harg; try dsimp only)
    | ((with_reducible refine at_storeM ?_); refine wpList_storeNM (w := w3) rfl _ _ rfl _ rfl (MC m (.slice p4 n4 c4)) _ rfl rfl (MC_one _ _ _ _) rfl rfl ?_)
    | (go_at_call 17; (with_reducible refine (HDR.out _ _ (HA3.out.below (bAl (bRef w3) _))).mono ?_); rintro e w4 ⟨p6, n6, c6, rfl, hb, harg⟩; have HBA := Lib.hid (bTr (bAl (bRef w3) (.cells (MC m (.slice p4 n4 c4)) 28 (0, 0))) hb); have hbx : Boxed (w3.alloc (.cells (MC m (.slice p4 n4 c4)) 28 (0, 0))) w3.heap.size m (.slice p4 n4 c4) := heap_alloc_new w3 _; have HX4 : Hid (Boxed w4 w3.heap.size m (.slice p4 n4 c4)) := Lib.hid (hbx.below hb); clear hbx; have HM4 := Lib.hid harg; clear hb harg; try dsimp only)
    | ((with_reducible refine at_storeS ?_); refine wpList_storeNS (w := w4) rfl _ _ rfl _ rfl (MC m (.slice p6 n6 c6)) _ rfl rfl (MC_one _ _ _ _) rfl rfl ?_))
  have hal := bAl (bRef w4) (.cells (MC m (.slice p6 n6 c6)) 38 (0, 0))
  have hto := bTr HBA.out hal
  have H0 : ReM w w3.heap.size w4.heap.size m (.slice p4 n4 c4) (.slice p6 n6 c6) v3 (.slice p n c) xs (w4.alloc (.cells (MC m (.slice p6 n6 c6)) 38 (0, 0))) :=
    ⟨HX4.out.below hal, heap_alloc_new w4 _, HM3.out.below hto, HM4.out.below hal, HC3.out.below hto, HA3.out.below hto, bTr HB3.out hto⟩
  obtain ⟨g4, hg4⟩ : ∃ g, g = w3.heap.size := ⟨_, rfl⟩
  obtain ⟨g6, hg6⟩ : ∃ g, g = w4.heap.size := ⟨_, rfl⟩
  rw [← hg4, ← hg6] at H0
  rw [← hg4, ← hg6]
  obtain ⟨v0, hv0⟩ : ∃ v, v = Value.slice p n c := ⟨_, rfl⟩
  rw [← hv0] at H0 ⊢
  have KP : ∀ W, ReM w g4 g6 m (.slice p4 n4 c4) (.slice p6 n6 c6) v3 v0 xs W → Calls Try.prog 11 #[.agg (MC m (.slice p4 n4 c4))] W fun e W' => e = .returned (.agg (MC m (.slice p4 n4 c4))) ∧ ReM w g4 g6 m (.slice p4 n4 c4) (.slice p6 n6 c6) v3 v0 xs W' :=
    fun W k => ((plain_mc m p4 n4 c4).go W).mono fun e W' hh => ⟨hh.1, k.call hh.2⟩
  have KT : ∀ W, ReM w g4 g6 m (.slice p4 n4 c4) (.slice p6 n6 c6) v3 v0 xs W → Calls Try.prog 15 #[.agg (MC m (.slice p4 n4 c4)), .agg (MC m (.slice p6 n6 c6))] W fun e W' => e = .returned (.bool true) ∧ ReM w g4 g6 m (.slice p4 n4 c4) (.slice p6 n6 c6) v3 v0 xs W' :=
    fun W k => (same_yes m (.slice p4 n4 c4) (.slice p6 n6 c6) W HMP.out k.l4 k.l6).mono fun e W' hh => ⟨hh.1, k.call hh.2⟩
  have KB : ∀ W, ReM w g4 g6 m (.slice p4 n4 c4) (.slice p6 n6 c6) v3 v0 xs W → Calls Try.prog 13 #[v3, v0] W fun e W' => e = .returned (.bool true) ∧ ReM w g4 g6 m (.slice p4 n4 c4) (.slice p6 n6 c6) v3 v0 xs W' :=
    fun W k => (same_any k.a3 k.a0 true (decide_eq_true rfl)).mono fun e W' hh => ⟨hh.1, by rw [← hh.2]; exact k⟩
  clear hal hto HBA HX4 HM4 HM3 HC3 HA3 HB3 HC2 HA2 HB2 HB HA1 HH HDP HDR HLE HA HMP hg4 hg6 hv0 hd1
  generalize w4.alloc (.cells (MC m (.slice p6 n6 c6)) 38 (0, 0)) = w5 at *
  refine wp_region_held_drew (S := ReM w g4 g6 m (.slice p4 n4 c4) (.slice p6 n6 c6) v3 v0 xs) (by kernel_rfl) (H0.call (bDr1 (bRef w5))) (fun hT => ?_)
  generalize World.drew _ = we at hT ⊢
  refine hTake (i := 0) (k := 25) (v := .int .i64 x) rfl rfl (by kernel_rfl) (by kernel_rfl) (by kernel_rfl) (fun _ _ _ h => h) (yieldsIf_val (by rfl) (by intro W; go_simp)) hT ?_
  simp only [List.setIfInBounds_toArray, List.set_cons_zero, List.set_cons_succ]
  refine hTake (i := 1) (k := 26) (v := .int .i64 x) rfl rfl (by kernel_rfl) (by kernel_rfl) (by kernel_rfl) (fun _ _ _ h => h) (yieldsIf_val (by rfl) (by intro W; go_simp)) hT ?_
  simp only [List.setIfInBounds_toArray, List.set_cons_zero, List.set_cons_succ]
  refine hTake (i := 2) (k := 27) (v := .bool true) rfl rfl (by kernel_rfl) (by kernel_rfl) (by kernel_rfl) (fun _ _ _ h => h) (yieldsIf_val (by rfl) (by intro W; go_simp)) hT ?_
  simp only [List.setIfInBounds_toArray, List.set_cons_zero, List.set_cons_succ]
  refine hTake (i := 3) (k := 28) (v := .bool true) rfl rfl (by kernel_rfl) (by kernel_rfl) (by kernel_rfl) (fun _ _ _ h => h) (yieldsIf_val (by rfl) (by intro W; go_simp)) hT ?_
  simp only [List.setIfInBounds_toArray, List.set_cons_zero, List.set_cons_succ]
  refine hTake (i := 4) (k := 29) rfl rfl (by kernel_rfl) (by kernel_rfl) (by kernel_rfl) (fun _ _ _ h => h) (yieldsIf_loadM (by rfl) _ rfl g4 rfl m (.slice p4 n4 c4) (fun _ k => k.b4)) hT ?_
  simp only [List.setIfInBounds_toArray, List.set_cons_zero, List.set_cons_succ]
  refine hTake (i := 6) (k := 31) rfl rfl (by kernel_rfl) (by kernel_rfl) (by kernel_rfl) (fun _ _ _ h => h) (yieldsIf_loadS (by rfl) _ rfl g6 rfl m (.slice p6 n6 c6) (fun _ k => k.b6)) hT ?_
  simp only [List.setIfInBounds_toArray, List.set_cons_zero, List.set_cons_succ]
  refine hCall (i := 5) (k := 30) (by kernel_rfl) rfl rfl (by rfl) 11 #[.agg (MC m (.slice p4 n4 c4))] (by intro W; go_simp) (.agg (MC m (.slice p4 n4 c4))) KP hT (fun wb hTb => ?_)
  simp only [List.setIfInBounds_toArray, List.set_cons_zero, List.set_cons_succ]
  refine hCall (i := 7) (k := 32) (by kernel_rfl) rfl rfl (by rfl) 15 #[.agg (MC m (.slice p4 n4 c4)), .agg (MC m (.slice p6 n6 c6))] (by intro W; go_simp) (.bool true) KT hTb (fun wc hTc => ?_)
  simp only [List.setIfInBounds_toArray, List.set_cons_zero, List.set_cons_succ]
  refine hTake (i := 8) (k := 33) (v := .bool true) rfl rfl (by kernel_rfl) (by kernel_rfl) (by kernel_rfl) (fun _ _ _ h => h) (yieldsIf_val (by rfl) (by intro W; go_simp)) hTc ?_
  simp only [List.setIfInBounds_toArray, List.set_cons_zero, List.set_cons_succ]
  refine hTake (i := 9) (k := 34) (v := .bool true) rfl rfl (by kernel_rfl) (by kernel_rfl) (by kernel_rfl) (fun _ _ _ h => h) (yieldsIf_val (by rfl) (by intro W; go_simp)) hTc ?_
  simp only [List.setIfInBounds_toArray, List.set_cons_zero, List.set_cons_succ]
  refine hTake (i := 10) (k := 35) (v := v3) rfl rfl (by kernel_rfl) (by kernel_rfl) (by kernel_rfl) (fun _ _ _ h => h) (yieldsIf_val (by rfl) (by intro W; go_simp)) hTc ?_
  simp only [List.setIfInBounds_toArray, List.set_cons_zero, List.set_cons_succ]
  refine hTake (i := 11) (k := 36) (v := v0) rfl rfl (by kernel_rfl) (by kernel_rfl) (by kernel_rfl) (fun _ _ _ h => h) (yieldsIf_val (by rfl) (by intro W; go_simp)) hTc ?_
  simp only [List.setIfInBounds_toArray, List.set_cons_zero, List.set_cons_succ]
  refine hCall (i := 12) (k := 37) (by kernel_rfl) rfl rfl (by rfl) 13 #[v3, v0] (by intro W; go_simp) (.bool true) KB hTc (fun wd hTd => ?_)
  simp only [List.setIfInBounds_toArray, List.set_cons_zero, List.set_cons_succ]
  refine hTake (i := 13) (k := 38) (v := .bool true) rfl rfl (by kernel_rfl) (by kernel_rfl) (by kernel_rfl) (fun _ _ _ h => h) (yieldsIf_val (by rfl) (by intro W; go_simp)) hTd ?_
  simp only [List.setIfInBounds_toArray, List.set_cons_zero, List.set_cons_succ]
  refine hTake (i := 14) (k := 2) (v := .bool true) rfl rfl (by kernel_rfl) (by kernel_rfl) (by kernel_rfl) (fun _ _ _ h => h) (yieldsIf_val (by rfl) (by intro W; go_simp)) hTd ?_
  simp only [List.setIfInBounds_toArray, List.set_cons_zero, List.set_cons_succ]
  refine wpAnyH_done (by kernel_rfl) ?_ _
  have HT := Lib.hid hTd.bel
  clear KP KT KB H0 hT hTb hTc hTd
  go_wp2_with fail
  go_ret
  exact ⟨rfl, HT.out⟩

theorem ptpReads_holds : Rows.PtpReadsSaid := ptpReads_of fun v xs w h => by
  obtain ⟨p, c, rfl⟩ := h.slice
  by_cases hn : 500 < xs.length
  · exact reads_long p _ c w hn
  · exact reads_any p _ c xs w (by omega) rfl h

end Go.Proofs.Ytcdcklkbjfhhnaa
