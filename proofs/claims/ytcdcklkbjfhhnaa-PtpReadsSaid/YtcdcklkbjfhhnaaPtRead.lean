/- Package ptp: read, its ways. -/
import Derived.Test.YtcdcklkbjfhhnaaPtReadA
namespace Go.Proofs.Ytcdcklkbjfhhnaa
open Go.RowKit Go.Joins

set_option maxRecDepth 100000 in
set_option maxHeartbeats 1000000 in
theorem read_form (w0 : World) (b o : Nat) (xs : List Nat) (gm gr : Nat) (W : World) (hw : w0.heap.size ≤ W.heap.size) (s0 s1 : St) (x0 : Int) (HS : Hid (NS w0 b o xs gm gr s0 W)) (N0 : Hid (NxTo w0 b o xs gm gr s0 1 x0 s1)) (hx : x0 < 16 ∨ (16 ≤ x0 ∧ 31 < x0)) :
    Calls Try.prog 26 #[.func (Fn.func 25) #[] #[.pointer (some ⟨gm, 0, none⟩), .pointer (some ⟨gr, 0, none⟩)]] W (RPost w0 b o xs gm gr W s1 Mg.zero (.slice none 0 0) 21) := by
  have HX := Lib.hid hx
  clear hx
  have HR := Lib.hid (RS.start HS.out hw)
  unfold ZC at HR
  go_enter Try.func26, Try.ntmps26
  rcases HX.out with hx | ⟨hx, hx2⟩
  all_goals
    go_wp2_with (first
      | ((with_reducible refine at_buildZ ?_); refine wpList_buildZ rfl rfl ?_)
      | ((with_reducible refine at_storeM ?_); refine wpList_storeM rfl _ _ rfl W.heap.size ZC rfl rfl (MC_one Mg.zero none 0 0) rfl _ HR.out.zero rfl ?_)
      | (go_at_call 25; (with_reducible refine (N0.out.go _ (by omega) _ HR.out.ns).mono ?_); rintro e wq0 ⟨rfl, hns, hbut⟩; replace HR := Lib.hid (HR.out.call hns hbut); clear hns hbut))
    refine bodyM2 rfl W.heap.size ZC _ rfl rfl (setRow_heap _ _ _ _ _ _ HR.out.zero) rfl rfl ?_
    obtain ⟨h1, _, _, h4, h5, h6, h7⟩ := HR.out
    exact ⟨rfl, h1.row (by omega) (by omega) h7 _, h4.row (Nat.le_refl _) _⟩

set_option maxRecDepth 100000 in
set_option maxHeartbeats 1000000 in
theorem read_kind (w0 : World) (b o : Nat) (xs : List Nat) (gm gr : Nat) (W : World) (hw : w0.heap.size ≤ W.heap.size) (s0 s1 : St) (x0 : Int) (HS : Hid (NS w0 b o xs gm gr s0 W)) (N0 : Hid (NxTo w0 b o xs gm gr s0 1 x0 s1)) (hx : 16 ≤ x0) (hx2 : x0 ≤ 31) (HK : Hid (RetQ 22 #[.int .i64 (x0 - 16)] (.bool false))) :
    Calls Try.prog 26 #[.func (Fn.func 25) #[] #[.pointer (some ⟨gm, 0, none⟩), .pointer (some ⟨gr, 0, none⟩)]] W (RPost w0 b o xs gm gr W s1 Mg.zero (.slice none 0 0) 23) := by
  have HR := Lib.hid (RS.start HS.out hw)
  unfold ZC at HR
  go_enter Try.func26, Try.ntmps26
  go_wp2_with (first
    | ((with_reducible refine at_buildZ ?_); refine wpList_buildZ rfl rfl ?_)
    | ((with_reducible refine at_storeM ?_); refine wpList_storeM rfl _ _ rfl W.heap.size ZC rfl rfl (MC_one Mg.zero none 0 0) rfl _ HR.out.zero rfl ?_)
    | (go_at_call 22; (with_reducible refine (HK.out.go _).mono ?_); rintro e w9 ⟨rfl, rfl⟩)
    | (go_at_call 25; (with_reducible refine (N0.out.go _ (by omega) _ HR.out.ns).mono ?_); rintro e wq0 ⟨rfl, hns, hbut⟩; have hR := HR.out.call hns hbut; have k0 := hR.box.c0; have fr0 := hR.fr 0; (try dsimp only at k0); replace HR := Lib.hid (hR.put 0 (.int .i64 (x0 - 16)) (m' := ⟨x0 - 16, 0, 0, 0, 0, 0, 0, 0, 0, 0, 0, 0, 0, 0, 0, []⟩) (v' := .slice none 0 0) rfl); clear hns hbut hR))
  refine bodyM2 rfl W.heap.size ZC _ rfl rfl (setRow_heap _ _ _ _ _ _ HR.out.zero) rfl rfl ?_
  obtain ⟨h1, _, _, h4, h5, h6, h7⟩ := HR.out
  exact ⟨rfl, h1.row (by omega) (by omega) h7 _, h4.row (Nat.le_refl _) _⟩

set_option maxRecDepth 100000 in
set_option maxHeartbeats 2000000 in
theorem read_0 (w0 : World) (b o : Nat) (xs : List Nat) (gm gr : Nat) (W : World) (hw : w0.heap.size ≤ W.heap.size) (s0 s1 s2 s3 s4 s5 s6 : St) (x1 x2 x3 x4 x5 : Int) (HS : Hid (NS w0 b o xs gm gr s0 W)) (HK : Hid (RetQ 22 #[.int .i64 0] (.bool true)))
    (N0 : Hid (NxTo w0 b o xs gm gr s0 1 16 s1))
    (N1 : Hid (NxTo w0 b o xs gm gr s1 1 x1 s2))
    (N2 : Hid (NxTo w0 b o xs gm gr s2 2 x2 s3))
    (N3 : Hid (NxTo w0 b o xs gm gr s3 6 x3 s4))
    (N4 : Hid (NxTo w0 b o xs gm gr s4 2 x4 s5))
    (N5 : Hid (NxTo w0 b o xs gm gr s5 8 x5 s6)) :
    Calls Try.prog 26 #[.func (Fn.func 25) #[] #[.pointer (some ⟨gm, 0, none⟩), .pointer (some ⟨gr, 0, none⟩)]] W (RPost w0 b o xs gm gr W s6 ⟨0, x1, x2, x3, x4, x5, 0, 0, 0, 0, 0, 0, 0, 0, 0, []⟩ (.slice none 0 0) 0) := by
  have HR := Lib.hid (RS.start HS.out hw)
  unfold ZC at HR
  go_enter Try.func26, Try.ntmps26
  go_wp2_with (first
    | ((with_reducible refine at_loadM ?_); refine wpList_loadM rfl _ rfl (W.heap.size + 1) rfl (MC ⟨0, x1, x2, x3, x4, x5, 0, 0, 0, 0, 0, 0, 0, 0, 0, []⟩ (.slice none 0 0)) _ HR.out.box rfl ?_)
    | ((with_reducible refine at_storeM ?_); refine wpList_storeM rfl _ _ rfl W.heap.size (MC ⟨0, x1, x2, x3, x4, x5, 0, 0, 0, 0, 0, 0, 0, 0, 0, []⟩ (.slice none 0 0)) rfl rfl (MC_one _ _ _ _) rfl _ HR.out.zero rfl ?_)
    | (go_at_call 22; (with_reducible refine (HK.out.go _).mono ?_); rintro e wk ⟨rfl, rfl⟩)
    | (go_at_call 25; (with_reducible refine (N0.out.go _ (by omega) _ HR.out.ns).mono ?_); rintro e wq0 ⟨rfl, hns, hbut⟩; have hR := HR.out.call hns hbut; have k0 := hR.box.c0; have fr0 := hR.fr 0; (try dsimp only at k0); replace HR := Lib.hid (hR.put 0 (.int .i64 0) (m' := ⟨0, 0, 0, 0, 0, 0, 0, 0, 0, 0, 0, 0, 0, 0, 0, []⟩) (v' := .slice none 0 0) rfl); clear hns hbut hR)
    | (go_at_call 25; (with_reducible refine (N1.out.go _ (by omega) _ HR.out.ns).mono ?_); rintro e wq1 ⟨rfl, hns, hbut⟩; have hR := HR.out.call hns hbut; have k1 := hR.box.c1; have fr1 := hR.fr 1; (try dsimp only at k1); replace HR := Lib.hid (hR.put 1 (.int .i64 x1) (m' := ⟨0, x1, 0, 0, 0, 0, 0, 0, 0, 0, 0, 0, 0, 0, 0, []⟩) (v' := .slice none 0 0) rfl); clear hns hbut hR)
    | (go_at_call 25; (with_reducible refine (N2.out.go _ (by omega) _ HR.out.ns).mono ?_); rintro e wq2 ⟨rfl, hns, hbut⟩; have hR := HR.out.call hns hbut; have k2 := hR.box.c2; have fr2 := hR.fr 2; (try dsimp only at k2); replace HR := Lib.hid (hR.put 2 (.int .i64 x2) (m' := ⟨0, x1, x2, 0, 0, 0, 0, 0, 0, 0, 0, 0, 0, 0, 0, []⟩) (v' := .slice none 0 0) rfl); clear hns hbut hR)
    | (go_at_call 25; (with_reducible refine (N3.out.go _ (by omega) _ HR.out.ns).mono ?_); rintro e wq3 ⟨rfl, hns, hbut⟩; have hR := HR.out.call hns hbut; have k3 := hR.box.c3; have fr3 := hR.fr 3; (try dsimp only at k3); replace HR := Lib.hid (hR.put 3 (.int .i64 x3) (m' := ⟨0, x1, x2, x3, 0, 0, 0, 0, 0, 0, 0, 0, 0, 0, 0, []⟩) (v' := .slice none 0 0) rfl); clear hns hbut hR)
    | (go_at_call 25; (with_reducible refine (N4.out.go _ (by omega) _ HR.out.ns).mono ?_); rintro e wq4 ⟨rfl, hns, hbut⟩; have hR := HR.out.call hns hbut; have k4 := hR.box.c4; have fr4 := hR.fr 4; (try dsimp only at k4); replace HR := Lib.hid (hR.put 4 (.int .i64 x4) (m' := ⟨0, x1, x2, x3, x4, 0, 0, 0, 0, 0, 0, 0, 0, 0, 0, []⟩) (v' := .slice none 0 0) rfl); clear hns hbut hR)
    | (go_at_call 25; (with_reducible refine (N5.out.go _ (by omega) _ HR.out.ns).mono ?_); rintro e wq5 ⟨rfl, hns, hbut⟩; have hR := HR.out.call hns hbut; have k5 := hR.box.c5; have fr5 := hR.fr 5; (try dsimp only at k5); have kk := hR.box.c0; (try dsimp only at kk); replace HR := Lib.hid (hR.put 5 (.int .i64 x5) (m' := ⟨0, x1, x2, x3, x4, x5, 0, 0, 0, 0, 0, 0, 0, 0, 0, []⟩) (v' := .slice none 0 0) rfl); clear hns hbut hR))
  refine bodyM2 rfl W.heap.size (MC ⟨0, x1, x2, x3, x4, x5, 0, 0, 0, 0, 0, 0, 0, 0, 0, []⟩ (.slice none 0 0)) _ rfl rfl (setRow_heap _ _ _ _ _ _ HR.out.zero) rfl rfl ?_
  obtain ⟨h1, _, _, h4, h5, h6, h7⟩ := HR.out
  exact ⟨rfl, h1.row (by omega) (by omega) h7 _, h4.row (Nat.le_refl _) _⟩

set_option maxRecDepth 100000 in
set_option maxHeartbeats 2000000 in
theorem read_2 (w0 : World) (b o : Nat) (xs : List Nat) (gm gr : Nat) (W : World) (hw : w0.heap.size ≤ W.heap.size) (s0 s1 s2 s3 s4 s5 s6 : St) (x1 x2 x3 x4 x5 : Int) (HS : Hid (NS w0 b o xs gm gr s0 W)) (HK : Hid (RetQ 22 #[.int .i64 2] (.bool true)))
    (N0 : Hid (NxTo w0 b o xs gm gr s0 1 18 s1))
    (N1 : Hid (NxTo w0 b o xs gm gr s1 1 x1 s2))
    (N2 : Hid (NxTo w0 b o xs gm gr s2 2 x2 s3))
    (N3 : Hid (NxTo w0 b o xs gm gr s3 6 x3 s4))
    (N4 : Hid (NxTo w0 b o xs gm gr s4 2 x4 s5))
    (N5 : Hid (NxTo w0 b o xs gm gr s5 8 x5 s6)) :
    Calls Try.prog 26 #[.func (Fn.func 25) #[] #[.pointer (some ⟨gm, 0, none⟩), .pointer (some ⟨gr, 0, none⟩)]] W (RPost w0 b o xs gm gr W s6 ⟨2, x1, x2, x3, x4, x5, 0, 0, 0, 0, 0, 0, 0, 0, 0, []⟩ (.slice none 0 0) 0) := by
  have HR := Lib.hid (RS.start HS.out hw)
  unfold ZC at HR
  go_enter Try.func26, Try.ntmps26
  go_wp2_with (first
    | ((with_reducible refine at_loadM ?_); refine wpList_loadM rfl _ rfl (W.heap.size + 1) rfl (MC ⟨2, x1, x2, x3, x4, x5, 0, 0, 0, 0, 0, 0, 0, 0, 0, []⟩ (.slice none 0 0)) _ HR.out.box rfl ?_)
    | ((with_reducible refine at_storeM ?_); refine wpList_storeM rfl _ _ rfl W.heap.size (MC ⟨2, x1, x2, x3, x4, x5, 0, 0, 0, 0, 0, 0, 0, 0, 0, []⟩ (.slice none 0 0)) rfl rfl (MC_one _ _ _ _) rfl _ HR.out.zero rfl ?_)
    | (go_at_call 22; (with_reducible refine (HK.out.go _).mono ?_); rintro e wk ⟨rfl, rfl⟩)
    | (go_at_call 25; (with_reducible refine (N0.out.go _ (by omega) _ HR.out.ns).mono ?_); rintro e wq0 ⟨rfl, hns, hbut⟩; have hR := HR.out.call hns hbut; have k0 := hR.box.c0; have fr0 := hR.fr 0; (try dsimp only at k0); replace HR := Lib.hid (hR.put 0 (.int .i64 2) (m' := ⟨2, 0, 0, 0, 0, 0, 0, 0, 0, 0, 0, 0, 0, 0, 0, []⟩) (v' := .slice none 0 0) rfl); clear hns hbut hR)
    | (go_at_call 25; (with_reducible refine (N1.out.go _ (by omega) _ HR.out.ns).mono ?_); rintro e wq1 ⟨rfl, hns, hbut⟩; have hR := HR.out.call hns hbut; have k1 := hR.box.c1; have fr1 := hR.fr 1; (try dsimp only at k1); replace HR := Lib.hid (hR.put 1 (.int .i64 x1) (m' := ⟨2, x1, 0, 0, 0, 0, 0, 0, 0, 0, 0, 0, 0, 0, 0, []⟩) (v' := .slice none 0 0) rfl); clear hns hbut hR)
    | (go_at_call 25; (with_reducible refine (N2.out.go _ (by omega) _ HR.out.ns).mono ?_); rintro e wq2 ⟨rfl, hns, hbut⟩; have hR := HR.out.call hns hbut; have k2 := hR.box.c2; have fr2 := hR.fr 2; (try dsimp only at k2); replace HR := Lib.hid (hR.put 2 (.int .i64 x2) (m' := ⟨2, x1, x2, 0, 0, 0, 0, 0, 0, 0, 0, 0, 0, 0, 0, []⟩) (v' := .slice none 0 0) rfl); clear hns hbut hR)
    | (go_at_call 25; (with_reducible refine (N3.out.go _ (by omega) _ HR.out.ns).mono ?_); rintro e wq3 ⟨rfl, hns, hbut⟩; have hR := HR.out.call hns hbut; have k3 := hR.box.c3; have fr3 := hR.fr 3; (try dsimp only at k3); replace HR := Lib.hid (hR.put 3 (.int .i64 x3) (m' := ⟨2, x1, x2, x3, 0, 0, 0, 0, 0, 0, 0, 0, 0, 0, 0, []⟩) (v' := .slice none 0 0) rfl); clear hns hbut hR)
    | (go_at_call 25; (with_reducible refine (N4.out.go _ (by omega) _ HR.out.ns).mono ?_); rintro e wq4 ⟨rfl, hns, hbut⟩; have hR := HR.out.call hns hbut; have k4 := hR.box.c4; have fr4 := hR.fr 4; (try dsimp only at k4); replace HR := Lib.hid (hR.put 4 (.int .i64 x4) (m' := ⟨2, x1, x2, x3, x4, 0, 0, 0, 0, 0, 0, 0, 0, 0, 0, []⟩) (v' := .slice none 0 0) rfl); clear hns hbut hR)
    | (go_at_call 25; (with_reducible refine (N5.out.go _ (by omega) _ HR.out.ns).mono ?_); rintro e wq5 ⟨rfl, hns, hbut⟩; have hR := HR.out.call hns hbut; have k5 := hR.box.c5; have fr5 := hR.fr 5; (try dsimp only at k5); have kk := hR.box.c0; (try dsimp only at kk); replace HR := Lib.hid (hR.put 5 (.int .i64 x5) (m' := ⟨2, x1, x2, x3, x4, x5, 0, 0, 0, 0, 0, 0, 0, 0, 0, []⟩) (v' := .slice none 0 0) rfl); clear hns hbut hR))
  refine bodyM2 rfl W.heap.size (MC ⟨2, x1, x2, x3, x4, x5, 0, 0, 0, 0, 0, 0, 0, 0, 0, []⟩ (.slice none 0 0)) _ rfl rfl (setRow_heap _ _ _ _ _ _ HR.out.zero) rfl rfl ?_
  obtain ⟨h1, _, _, h4, h5, h6, h7⟩ := HR.out
  exact ⟨rfl, h1.row (by omega) (by omega) h7 _, h4.row (Nat.le_refl _) _⟩

set_option maxRecDepth 100000 in
set_option maxHeartbeats 2000000 in
theorem read_3 (w0 : World) (b o : Nat) (xs : List Nat) (gm gr : Nat) (W : World) (hw : w0.heap.size ≤ W.heap.size) (s0 s1 s2 s3 s4 s5 s6 s7 s8 s9 : St) (x1 x2 x3 x4 x5 x6 x7 x8 : Int) (HS : Hid (NS w0 b o xs gm gr s0 W)) (HK : Hid (RetQ 22 #[.int .i64 3] (.bool true)))
    (N0 : Hid (NxTo w0 b o xs gm gr s0 1 19 s1))
    (N1 : Hid (NxTo w0 b o xs gm gr s1 1 x1 s2))
    (N2 : Hid (NxTo w0 b o xs gm gr s2 2 x2 s3))
    (N3 : Hid (NxTo w0 b o xs gm gr s3 6 x3 s4))
    (N4 : Hid (NxTo w0 b o xs gm gr s4 2 x4 s5))
    (N5 : Hid (NxTo w0 b o xs gm gr s5 8 x5 s6))
    (N6 : Hid (NxTo w0 b o xs gm gr s6 8 x6 s7))
    (N7 : Hid (NxTo w0 b o xs gm gr s7 6 x7 s8))
    (N8 : Hid (NxTo w0 b o xs gm gr s8 2 x8 s9)) :
    Calls Try.prog 26 #[.func (Fn.func 25) #[] #[.pointer (some ⟨gm, 0, none⟩), .pointer (some ⟨gr, 0, none⟩)]] W (RPost w0 b o xs gm gr W s9 ⟨3, x1, x2, x3, x4, x5, x6, x7, x8, 0, 0, 0, 0, 0, 0, []⟩ (.slice none 0 0) 0) := by
  have HR := Lib.hid (RS.start HS.out hw)
  unfold ZC at HR
  go_enter Try.func26, Try.ntmps26
  go_wp2_with (first
    | ((with_reducible refine at_loadM ?_); refine wpList_loadM rfl _ rfl (W.heap.size + 1) rfl (MC ⟨3, x1, x2, x3, x4, x5, x6, x7, x8, 0, 0, 0, 0, 0, 0, []⟩ (.slice none 0 0)) _ HR.out.box rfl ?_)
    | ((with_reducible refine at_storeM ?_); refine wpList_storeM rfl _ _ rfl W.heap.size (MC ⟨3, x1, x2, x3, x4, x5, x6, x7, x8, 0, 0, 0, 0, 0, 0, []⟩ (.slice none 0 0)) rfl rfl (MC_one _ _ _ _) rfl _ HR.out.zero rfl ?_)
    | (go_at_call 22; (with_reducible refine (HK.out.go _).mono ?_); rintro e wk ⟨rfl, rfl⟩)
    | (go_at_call 25; (with_reducible refine (N0.out.go _ (by omega) _ HR.out.ns).mono ?_); rintro e wq0 ⟨rfl, hns, hbut⟩; have hR := HR.out.call hns hbut; have k0 := hR.box.c0; have fr0 := hR.fr 0; (try dsimp only at k0); replace HR := Lib.hid (hR.put 0 (.int .i64 3) (m' := ⟨3, 0, 0, 0, 0, 0, 0, 0, 0, 0, 0, 0, 0, 0, 0, []⟩) (v' := .slice none 0 0) rfl); clear hns hbut hR)
    | (go_at_call 25; (with_reducible refine (N1.out.go _ (by omega) _ HR.out.ns).mono ?_); rintro e wq1 ⟨rfl, hns, hbut⟩; have hR := HR.out.call hns hbut; have k1 := hR.box.c1; have fr1 := hR.fr 1; (try dsimp only at k1); replace HR := Lib.hid (hR.put 1 (.int .i64 x1) (m' := ⟨3, x1, 0, 0, 0, 0, 0, 0, 0, 0, 0, 0, 0, 0, 0, []⟩) (v' := .slice none 0 0) rfl); clear hns hbut hR)
    | (go_at_call 25; (with_reducible refine (N2.out.go _ (by omega) _ HR.out.ns).mono ?_); rintro e wq2 ⟨rfl, hns, hbut⟩; have hR := HR.out.call hns hbut; have k2 := hR.box.c2; have fr2 := hR.fr 2; (try dsimp only at k2); replace HR := Lib.hid (hR.put 2 (.int .i64 x2) (m' := ⟨3, x1, x2, 0, 0, 0, 0, 0, 0, 0, 0, 0, 0, 0, 0, []⟩) (v' := .slice none 0 0) rfl); clear hns hbut hR)
    | (go_at_call 25; (with_reducible refine (N3.out.go _ (by omega) _ HR.out.ns).mono ?_); rintro e wq3 ⟨rfl, hns, hbut⟩; have hR := HR.out.call hns hbut; have k3 := hR.box.c3; have fr3 := hR.fr 3; (try dsimp only at k3); replace HR := Lib.hid (hR.put 3 (.int .i64 x3) (m' := ⟨3, x1, x2, x3, 0, 0, 0, 0, 0, 0, 0, 0, 0, 0, 0, []⟩) (v' := .slice none 0 0) rfl); clear hns hbut hR)
    | (go_at_call 25; (with_reducible refine (N4.out.go _ (by omega) _ HR.out.ns).mono ?_); rintro e wq4 ⟨rfl, hns, hbut⟩; have hR := HR.out.call hns hbut; have k4 := hR.box.c4; have fr4 := hR.fr 4; (try dsimp only at k4); replace HR := Lib.hid (hR.put 4 (.int .i64 x4) (m' := ⟨3, x1, x2, x3, x4, 0, 0, 0, 0, 0, 0, 0, 0, 0, 0, []⟩) (v' := .slice none 0 0) rfl); clear hns hbut hR)
    | (go_at_call 25; (with_reducible refine (N5.out.go _ (by omega) _ HR.out.ns).mono ?_); rintro e wq5 ⟨rfl, hns, hbut⟩; have hR := HR.out.call hns hbut; have k5 := hR.box.c5; have fr5 := hR.fr 5; (try dsimp only at k5); have kk := hR.box.c0; (try dsimp only at kk); replace HR := Lib.hid (hR.put 5 (.int .i64 x5) (m' := ⟨3, x1, x2, x3, x4, x5, 0, 0, 0, 0, 0, 0, 0, 0, 0, []⟩) (v' := .slice none 0 0) rfl); clear hns hbut hR)
    | (go_at_call 25; (with_reducible refine (N6.out.go _ (by omega) _ HR.out.ns).mono ?_); rintro e wq6 ⟨rfl, hns, hbut⟩; have hR := HR.out.call hns hbut; have k6 := hR.box.c6; have fr6 := hR.fr 6; (try dsimp only at k6); replace HR := Lib.hid (hR.put 6 (.int .i64 x6) (m' := ⟨3, x1, x2, x3, x4, x5, x6, 0, 0, 0, 0, 0, 0, 0, 0, []⟩) (v' := .slice none 0 0) rfl); clear hns hbut hR)
    | (go_at_call 25; (with_reducible refine (N7.out.go _ (by omega) _ HR.out.ns).mono ?_); rintro e wq7 ⟨rfl, hns, hbut⟩; have hR := HR.out.call hns hbut; have k7 := hR.box.c7; have fr7 := hR.fr 7; (try dsimp only at k7); replace HR := Lib.hid (hR.put 7 (.int .i64 x7) (m' := ⟨3, x1, x2, x3, x4, x5, x6, x7, 0, 0, 0, 0, 0, 0, 0, []⟩) (v' := .slice none 0 0) rfl); clear hns hbut hR)
    | (go_at_call 25; (with_reducible refine (N8.out.go _ (by omega) _ HR.out.ns).mono ?_); rintro e wq8 ⟨rfl, hns, hbut⟩; have hR := HR.out.call hns hbut; have k8 := hR.box.c8; have fr8 := hR.fr 8; (try dsimp only at k8); replace HR := Lib.hid (hR.put 8 (.int .i64 x8) (m' := ⟨3, x1, x2, x3, x4, x5, x6, x7, x8, 0, 0, 0, 0, 0, 0, []⟩) (v' := .slice none 0 0) rfl); clear hns hbut hR))
  refine bodyM2 rfl W.heap.size (MC ⟨3, x1, x2, x3, x4, x5, x6, x7, x8, 0, 0, 0, 0, 0, 0, []⟩ (.slice none 0 0)) _ rfl rfl (setRow_heap _ _ _ _ _ _ HR.out.zero) rfl rfl ?_
  obtain ⟨h1, _, _, h4, h5, h6, h7⟩ := HR.out
  exact ⟨rfl, h1.row (by omega) (by omega) h7 _, h4.row (Nat.le_refl _) _⟩

set_option maxRecDepth 100000 in
set_option maxHeartbeats 2000000 in
theorem read_8 (w0 : World) (b o : Nat) (xs : List Nat) (gm gr : Nat) (W : World) (hw : w0.heap.size ≤ W.heap.size) (s0 s1 s2 s3 s4 s5 s6 s7 s8 : St) (x1 x2 x3 x4 x5 x6 x7 : Int) (HS : Hid (NS w0 b o xs gm gr s0 W)) (HK : Hid (RetQ 22 #[.int .i64 8] (.bool true)))
    (N0 : Hid (NxTo w0 b o xs gm gr s0 1 24 s1))
    (N1 : Hid (NxTo w0 b o xs gm gr s1 1 x1 s2))
    (N2 : Hid (NxTo w0 b o xs gm gr s2 2 x2 s3))
    (N3 : Hid (NxTo w0 b o xs gm gr s3 6 x3 s4))
    (N4 : Hid (NxTo w0 b o xs gm gr s4 2 x4 s5))
    (N5 : Hid (NxTo w0 b o xs gm gr s5 8 x5 s6))
    (N6 : Hid (NxTo w0 b o xs gm gr s6 8 x6 s7))
    (N7 : Hid (NxTo w0 b o xs gm gr s7 8 x7 s8)) :
    Calls Try.prog 26 #[.func (Fn.func 25) #[] #[.pointer (some ⟨gm, 0, none⟩), .pointer (some ⟨gr, 0, none⟩)]] W (RPost w0 b o xs gm gr W s8 ⟨8, x1, x2, x3, x4, x5, x6, 0, 0, x7, 0, 0, 0, 0, 0, []⟩ (.slice none 0 0) 0) := by
  have HR := Lib.hid (RS.start HS.out hw)
  unfold ZC at HR
  go_enter Try.func26, Try.ntmps26
  go_wp2_with (first
    | ((with_reducible refine at_loadM ?_); refine wpList_loadM rfl _ rfl (W.heap.size + 1) rfl (MC ⟨8, x1, x2, x3, x4, x5, x6, 0, 0, x7, 0, 0, 0, 0, 0, []⟩ (.slice none 0 0)) _ HR.out.box rfl ?_)
    | ((with_reducible refine at_storeM ?_); refine wpList_storeM rfl _ _ rfl W.heap.size (MC ⟨8, x1, x2, x3, x4, x5, x6, 0, 0, x7, 0, 0, 0, 0, 0, []⟩ (.slice none 0 0)) rfl rfl (MC_one _ _ _ _) rfl _ HR.out.zero rfl ?_)
    | (go_at_call 22; (with_reducible refine (HK.out.go _).mono ?_); rintro e wk ⟨rfl, rfl⟩)
    | (go_at_call 25; (with_reducible refine (N0.out.go _ (by omega) _ HR.out.ns).mono ?_); rintro e wq0 ⟨rfl, hns, hbut⟩; have hR := HR.out.call hns hbut; have k0 := hR.box.c0; have fr0 := hR.fr 0; (try dsimp only at k0); replace HR := Lib.hid (hR.put 0 (.int .i64 8) (m' := ⟨8, 0, 0, 0, 0, 0, 0, 0, 0, 0, 0, 0, 0, 0, 0, []⟩) (v' := .slice none 0 0) rfl); clear hns hbut hR)
    | (go_at_call 25; (with_reducible refine (N1.out.go _ (by omega) _ HR.out.ns).mono ?_); rintro e wq1 ⟨rfl, hns, hbut⟩; have hR := HR.out.call hns hbut; have k1 := hR.box.c1; have fr1 := hR.fr 1; (try dsimp only at k1); replace HR := Lib.hid (hR.put 1 (.int .i64 x1) (m' := ⟨8, x1, 0, 0, 0, 0, 0, 0, 0, 0, 0, 0, 0, 0, 0, []⟩) (v' := .slice none 0 0) rfl); clear hns hbut hR)
    | (go_at_call 25; (with_reducible refine (N2.out.go _ (by omega) _ HR.out.ns).mono ?_); rintro e wq2 ⟨rfl, hns, hbut⟩; have hR := HR.out.call hns hbut; have k2 := hR.box.c2; have fr2 := hR.fr 2; (try dsimp only at k2); replace HR := Lib.hid (hR.put 2 (.int .i64 x2) (m' := ⟨8, x1, x2, 0, 0, 0, 0, 0, 0, 0, 0, 0, 0, 0, 0, []⟩) (v' := .slice none 0 0) rfl); clear hns hbut hR)
    | (go_at_call 25; (with_reducible refine (N3.out.go _ (by omega) _ HR.out.ns).mono ?_); rintro e wq3 ⟨rfl, hns, hbut⟩; have hR := HR.out.call hns hbut; have k3 := hR.box.c3; have fr3 := hR.fr 3; (try dsimp only at k3); replace HR := Lib.hid (hR.put 3 (.int .i64 x3) (m' := ⟨8, x1, x2, x3, 0, 0, 0, 0, 0, 0, 0, 0, 0, 0, 0, []⟩) (v' := .slice none 0 0) rfl); clear hns hbut hR)
    | (go_at_call 25; (with_reducible refine (N4.out.go _ (by omega) _ HR.out.ns).mono ?_); rintro e wq4 ⟨rfl, hns, hbut⟩; have hR := HR.out.call hns hbut; have k4 := hR.box.c4; have fr4 := hR.fr 4; (try dsimp only at k4); replace HR := Lib.hid (hR.put 4 (.int .i64 x4) (m' := ⟨8, x1, x2, x3, x4, 0, 0, 0, 0, 0, 0, 0, 0, 0, 0, []⟩) (v' := .slice none 0 0) rfl); clear hns hbut hR)
    | (go_at_call 25; (with_reducible refine (N5.out.go _ (by omega) _ HR.out.ns).mono ?_); rintro e wq5 ⟨rfl, hns, hbut⟩; have hR := HR.out.call hns hbut; have k5 := hR.box.c5; have fr5 := hR.fr 5; (try dsimp only at k5); have kk := hR.box.c0; (try dsimp only at kk); replace HR := Lib.hid (hR.put 5 (.int .i64 x5) (m' := ⟨8, x1, x2, x3, x4, x5, 0, 0, 0, 0, 0, 0, 0, 0, 0, []⟩) (v' := .slice none 0 0) rfl); clear hns hbut hR)
    | (go_at_call 25; (with_reducible refine (N6.out.go _ (by omega) _ HR.out.ns).mono ?_); rintro e wq6 ⟨rfl, hns, hbut⟩; have hR := HR.out.call hns hbut; have k6 := hR.box.c6; have fr6 := hR.fr 6; (try dsimp only at k6); replace HR := Lib.hid (hR.put 6 (.int .i64 x6) (m' := ⟨8, x1, x2, x3, x4, x5, x6, 0, 0, 0, 0, 0, 0, 0, 0, []⟩) (v' := .slice none 0 0) rfl); clear hns hbut hR)
    | (go_at_call 25; (with_reducible refine (N7.out.go _ (by omega) _ HR.out.ns).mono ?_); rintro e wq7 ⟨rfl, hns, hbut⟩; have hR := HR.out.call hns hbut; have k7 := hR.box.c9; have fr7 := hR.fr 9; (try dsimp only at k7); replace HR := Lib.hid (hR.put 9 (.int .i64 x7) (m' := ⟨8, x1, x2, x3, x4, x5, x6, 0, 0, x7, 0, 0, 0, 0, 0, []⟩) (v' := .slice none 0 0) rfl); clear hns hbut hR))
  refine bodyM2 rfl W.heap.size (MC ⟨8, x1, x2, x3, x4, x5, x6, 0, 0, x7, 0, 0, 0, 0, 0, []⟩ (.slice none 0 0)) _ rfl rfl (setRow_heap _ _ _ _ _ _ HR.out.zero) rfl rfl ?_
  obtain ⟨h1, _, _, h4, h5, h6, h7⟩ := HR.out
  exact ⟨rfl, h1.row (by omega) (by omega) h7 _, h4.row (Nat.le_refl _) _⟩

set_option maxRecDepth 100000 in
set_option maxHeartbeats 2000000 in
theorem read_10 (w0 : World) (b o : Nat) (xs : List Nat) (gm gr : Nat) (W : World) (hw : w0.heap.size ≤ W.heap.size) (s0 s1 s2 s3 s4 s5 s6 s7 s8 s9 : St) (x1 x2 x3 x4 x5 x6 x7 x8 : Int) (HS : Hid (NS w0 b o xs gm gr s0 W)) (HK : Hid (RetQ 22 #[.int .i64 10] (.bool true)))
    (N0 : Hid (NxTo w0 b o xs gm gr s0 1 26 s1))
    (N1 : Hid (NxTo w0 b o xs gm gr s1 1 x1 s2))
    (N2 : Hid (NxTo w0 b o xs gm gr s2 2 x2 s3))
    (N3 : Hid (NxTo w0 b o xs gm gr s3 6 x3 s4))
    (N4 : Hid (NxTo w0 b o xs gm gr s4 2 x4 s5))
    (N5 : Hid (NxTo w0 b o xs gm gr s5 8 x5 s6))
    (N6 : Hid (NxTo w0 b o xs gm gr s6 8 x6 s7))
    (N7 : Hid (NxTo w0 b o xs gm gr s7 6 x7 s8))
    (N8 : Hid (NxTo w0 b o xs gm gr s8 2 x8 s9)) :
    Calls Try.prog 26 #[.func (Fn.func 25) #[] #[.pointer (some ⟨gm, 0, none⟩), .pointer (some ⟨gr, 0, none⟩)]] W (RPost w0 b o xs gm gr W s9 ⟨10, x1, x2, x3, x4, x5, x6, x7, x8, 0, 0, 0, 0, 0, 0, []⟩ (.slice none 0 0) 0) := by
  have HR := Lib.hid (RS.start HS.out hw)
  unfold ZC at HR
  go_enter Try.func26, Try.ntmps26
  go_wp2_with (first
    | ((with_reducible refine at_loadM ?_); refine wpList_loadM rfl _ rfl (W.heap.size + 1) rfl (MC ⟨10, x1, x2, x3, x4, x5, x6, x7, x8, 0, 0, 0, 0, 0, 0, []⟩ (.slice none 0 0)) _ HR.out.box rfl ?_)
    | ((with_reducible refine at_storeM ?_); refine wpList_storeM rfl _ _ rfl W.heap.size (MC ⟨10, x1, x2, x3, x4, x5, x6, x7, x8, 0, 0, 0, 0, 0, 0, []⟩ (.slice none 0 0)) rfl rfl (MC_one _ _ _ _) rfl _ HR.out.zero rfl ?_)
    | (go_at_call 22; (with_reducible refine (HK.out.go _).mono ?_); rintro e wk ⟨rfl, rfl⟩)
    | (go_at_call 25; (with_reducible refine (N0.out.go _ (by omega) _ HR.out.ns).mono ?_); rintro e wq0 ⟨rfl, hns, hbut⟩; have hR := HR.out.call hns hbut; have k0 := hR.box.c0; have fr0 := hR.fr 0; (try dsimp only at k0); replace HR := Lib.hid (hR.put 0 (.int .i64 10) (m' := ⟨10, 0, 0, 0, 0, 0, 0, 0, 0, 0, 0, 0, 0, 0, 0, []⟩) (v' := .slice none 0 0) rfl); clear hns hbut hR)
    | (go_at_call 25; (with_reducible refine (N1.out.go _ (by omega) _ HR.out.ns).mono ?_); rintro e wq1 ⟨rfl, hns, hbut⟩; have hR := HR.out.call hns hbut; have k1 := hR.box.c1; have fr1 := hR.fr 1; (try dsimp only at k1); replace HR := Lib.hid (hR.put 1 (.int .i64 x1) (m' := ⟨10, x1, 0, 0, 0, 0, 0, 0, 0, 0, 0, 0, 0, 0, 0, []⟩) (v' := .slice none 0 0) rfl); clear hns hbut hR)
    | (go_at_call 25; (with_reducible refine (N2.out.go _ (by omega) _ HR.out.ns).mono ?_); rintro e wq2 ⟨rfl, hns, hbut⟩; have hR := HR.out.call hns hbut; have k2 := hR.box.c2; have fr2 := hR.fr 2; (try dsimp only at k2); replace HR := Lib.hid (hR.put 2 (.int .i64 x2) (m' := ⟨10, x1, x2, 0, 0, 0, 0, 0, 0, 0, 0, 0, 0, 0, 0, []⟩) (v' := .slice none 0 0) rfl); clear hns hbut hR)
    | (go_at_call 25; (with_reducible refine (N3.out.go _ (by omega) _ HR.out.ns).mono ?_); rintro e wq3 ⟨rfl, hns, hbut⟩; have hR := HR.out.call hns hbut; have k3 := hR.box.c3; have fr3 := hR.fr 3; (try dsimp only at k3); replace HR := Lib.hid (hR.put 3 (.int .i64 x3) (m' := ⟨10, x1, x2, x3, 0, 0, 0, 0, 0, 0, 0, 0, 0, 0, 0, []⟩) (v' := .slice none 0 0) rfl); clear hns hbut hR)
    | (go_at_call 25; (with_reducible refine (N4.out.go _ (by omega) _ HR.out.ns).mono ?_); rintro e wq4 ⟨rfl, hns, hbut⟩; have hR := HR.out.call hns hbut; have k4 := hR.box.c4; have fr4 := hR.fr 4; (try dsimp only at k4); replace HR := Lib.hid (hR.put 4 (.int .i64 x4) (m' := ⟨10, x1, x2, x3, x4, 0, 0, 0, 0, 0, 0, 0, 0, 0, 0, []⟩) (v' := .slice none 0 0) rfl); clear hns hbut hR)
    | (go_at_call 25; (with_reducible refine (N5.out.go _ (by omega) _ HR.out.ns).mono ?_); rintro e wq5 ⟨rfl, hns, hbut⟩; have hR := HR.out.call hns hbut; have k5 := hR.box.c5; have fr5 := hR.fr 5; (try dsimp only at k5); have kk := hR.box.c0; (try dsimp only at kk); replace HR := Lib.hid (hR.put 5 (.int .i64 x5) (m' := ⟨10, x1, x2, x3, x4, x5, 0, 0, 0, 0, 0, 0, 0, 0, 0, []⟩) (v' := .slice none 0 0) rfl); clear hns hbut hR)
    | (go_at_call 25; (with_reducible refine (N6.out.go _ (by omega) _ HR.out.ns).mono ?_); rintro e wq6 ⟨rfl, hns, hbut⟩; have hR := HR.out.call hns hbut; have k6 := hR.box.c6; have fr6 := hR.fr 6; (try dsimp only at k6); replace HR := Lib.hid (hR.put 6 (.int .i64 x6) (m' := ⟨10, x1, x2, x3, x4, x5, x6, 0, 0, 0, 0, 0, 0, 0, 0, []⟩) (v' := .slice none 0 0) rfl); clear hns hbut hR)
    | (go_at_call 25; (with_reducible refine (N7.out.go _ (by omega) _ HR.out.ns).mono ?_); rintro e wq7 ⟨rfl, hns, hbut⟩; have hR := HR.out.call hns hbut; have k7 := hR.box.c7; have fr7 := hR.fr 7; (try dsimp only at k7); replace HR := Lib.hid (hR.put 7 (.int .i64 x7) (m' := ⟨10, x1, x2, x3, x4, x5, x6, x7, 0, 0, 0, 0, 0, 0, 0, []⟩) (v' := .slice none 0 0) rfl); clear hns hbut hR)
    | (go_at_call 25; (with_reducible refine (N8.out.go _ (by omega) _ HR.out.ns).mono ?_); rintro e wq8 ⟨rfl, hns, hbut⟩; have hR := HR.out.call hns hbut; have k8 := hR.box.c8; have fr8 := hR.fr 8; (try dsimp only at k8); replace HR := Lib.hid (hR.put 8 (.int .i64 x8) (m' := ⟨10, x1, x2, x3, x4, x5, x6, x7, x8, 0, 0, 0, 0, 0, 0, []⟩) (v' := .slice none 0 0) rfl); clear hns hbut hR))
  refine bodyM2 rfl W.heap.size (MC ⟨10, x1, x2, x3, x4, x5, x6, x7, x8, 0, 0, 0, 0, 0, 0, []⟩ (.slice none 0 0)) _ rfl rfl (setRow_heap _ _ _ _ _ _ HR.out.zero) rfl rfl ?_
  obtain ⟨h1, _, _, h4, h5, h6, h7⟩ := HR.out
  exact ⟨rfl, h1.row (by omega) (by omega) h7 _, h4.row (Nat.le_refl _) _⟩

end Go.Proofs.Ytcdcklkbjfhhnaa
