/- Package ptp: read, an Announce. -/
import Derived.Test.YtcdcklkbjfhhnaaPtPathA
namespace Go.Proofs.Ytcdcklkbjfhhnaa
open Go.RowKit Go.Joins

theorem RS.drew {w0 W wc : World} {b o gm gr : Nat} {xs : List Nat} {s : St} {m : Mg} {v : Value} (h : RS w0 b o xs gm gr W s m v wc) : RS w0 b o xs gm gr W s m v wc.drew := by
  obtain ⟨⟨k1, k2, k3, k4⟩, h2, h3, h4, h5⟩ := h
  exact ⟨⟨k1, k2, bDr1 k3, k4⟩, h2, h3, h4, h5⟩
theorem OwnI.drew {B : Nat} {w : World} {v : Value} {ps : List Int} (h : OwnI B w v ps) : OwnI B w.drew v ps := h

set_option maxRecDepth 100000 in
set_option maxHeartbeats 2000000 in
theorem read_many (w0 : World) (b o : Nat) (xs : List Nat) (gm gr : Nat) (W : World) (hw : w0.heap.size ≤ W.heap.size) (s0 s1 s2 s3 s4 s5 s6 s7 s8 s9 s10 s11 s12 : St) (x1 x2 x3 x4 x5 x6 x7 x8 x9 x10 : Int) (XC : Int) (HS : Hid (NS w0 b o xs gm gr s0 W)) (HK : Hid (RetQ 22 #[.int .i64 11] (.bool true)))
    (N0 : Hid (NxTo w0 b o xs gm gr s0 1 27 s1))
    (N1 : Hid (NxTo w0 b o xs gm gr s1 1 x1 s2))
    (N2 : Hid (NxTo w0 b o xs gm gr s2 2 x2 s3))
    (N3 : Hid (NxTo w0 b o xs gm gr s3 6 x3 s4))
    (N4 : Hid (NxTo w0 b o xs gm gr s4 2 x4 s5))
    (N5 : Hid (NxTo w0 b o xs gm gr s5 8 x5 s6))
    (N6 : Hid (NxTo w0 b o xs gm gr s6 1 x6 s7))
    (N7 : Hid (NxTo w0 b o xs gm gr s7 1 x7 s8))
    (N8 : Hid (NxTo w0 b o xs gm gr s8 1 x8 s9))
    (N9 : Hid (NxTo w0 b o xs gm gr s9 6 x9 s10))
    (N10 : Hid (NxTo w0 b o xs gm gr s10 1 x10 s11))
    (N11 : Hid (NxTo w0 b o xs gm gr s11 1 XC s12)) (hC : 32 < XC) :
    Calls Try.prog 26 #[.func (Fn.func 25) #[] #[.pointer (some ⟨gm, 0, none⟩), .pointer (some ⟨gr, 0, none⟩)]] W (RPost w0 b o xs gm gr W s12 Mg.zero (.slice none 0 0) 4) := by
  have HR := Lib.hid (RS.start HS.out hw)
  unfold ZC at HR
  go_enter Try.func26, Try.ntmps26
  go_wp2_with (first
    | ((with_reducible refine at_buildZ ?_); refine wpList_buildZ rfl rfl ?_)
    | ((with_reducible refine at_storeM ?_); refine wpList_storeM rfl _ _ rfl W.heap.size ZC rfl rfl (MC_one Mg.zero none 0 0) rfl _ HR.out.zero rfl ?_)
    | (go_at_call 22; (with_reducible refine (HK.out.go _).mono ?_); rintro e wk ⟨rfl, rfl⟩)
    | (go_at_call 25; (with_reducible refine (N0.out.go _ (by omega) _ HR.out.ns).mono ?_); rintro e wq0 ⟨rfl, hns, hbut⟩; have hR := HR.out.call hns hbut; have k0 := hR.box.c0; have fr0 := hR.fr 0; (try dsimp only at k0); replace HR := Lib.hid (hR.put 0 (.int .i64 11) (m' := ⟨11, 0, 0, 0, 0, 0, 0, 0, 0, 0, 0, 0, 0, 0, 0, []⟩) (v' := .slice none 0 0) rfl); clear hns hbut hR)
    | (go_at_call 25; (with_reducible refine (N1.out.go _ (by omega) _ HR.out.ns).mono ?_); rintro e wq1 ⟨rfl, hns, hbut⟩; have hR := HR.out.call hns hbut; have k1 := hR.box.c1; have fr1 := hR.fr 1; (try dsimp only at k1); replace HR := Lib.hid (hR.put 1 (.int .i64 x1) (m' := ⟨11, x1, 0, 0, 0, 0, 0, 0, 0, 0, 0, 0, 0, 0, 0, []⟩) (v' := .slice none 0 0) rfl); clear hns hbut hR)
    | (go_at_call 25; (with_reducible refine (N2.out.go _ (by omega) _ HR.out.ns).mono ?_); rintro e wq2 ⟨rfl, hns, hbut⟩; have hR := HR.out.call hns hbut; have k2 := hR.box.c2; have fr2 := hR.fr 2; (try dsimp only at k2); replace HR := Lib.hid (hR.put 2 (.int .i64 x2) (m' := ⟨11, x1, x2, 0, 0, 0, 0, 0, 0, 0, 0, 0, 0, 0, 0, []⟩) (v' := .slice none 0 0) rfl); clear hns hbut hR)
    | (go_at_call 25; (with_reducible refine (N3.out.go _ (by omega) _ HR.out.ns).mono ?_); rintro e wq3 ⟨rfl, hns, hbut⟩; have hR := HR.out.call hns hbut; have k3 := hR.box.c3; have fr3 := hR.fr 3; (try dsimp only at k3); replace HR := Lib.hid (hR.put 3 (.int .i64 x3) (m' := ⟨11, x1, x2, x3, 0, 0, 0, 0, 0, 0, 0, 0, 0, 0, 0, []⟩) (v' := .slice none 0 0) rfl); clear hns hbut hR)
    | (go_at_call 25; (with_reducible refine (N4.out.go _ (by omega) _ HR.out.ns).mono ?_); rintro e wq4 ⟨rfl, hns, hbut⟩; have hR := HR.out.call hns hbut; have k4 := hR.box.c4; have fr4 := hR.fr 4; (try dsimp only at k4); replace HR := Lib.hid (hR.put 4 (.int .i64 x4) (m' := ⟨11, x1, x2, x3, x4, 0, 0, 0, 0, 0, 0, 0, 0, 0, 0, []⟩) (v' := .slice none 0 0) rfl); clear hns hbut hR)
    | (go_at_call 25; (with_reducible refine (N5.out.go _ (by omega) _ HR.out.ns).mono ?_); rintro e wq5 ⟨rfl, hns, hbut⟩; have hR := HR.out.call hns hbut; have k5 := hR.box.c5; have fr5 := hR.fr 5; (try dsimp only at k5); have kk := hR.box.c0; (try dsimp only at kk); replace HR := Lib.hid (hR.put 5 (.int .i64 x5) (m' := ⟨11, x1, x2, x3, x4, x5, 0, 0, 0, 0, 0, 0, 0, 0, 0, []⟩) (v' := .slice none 0 0) rfl); clear hns hbut hR)
    | (go_at_call 25; (with_reducible refine (N6.out.go _ (by omega) _ HR.out.ns).mono ?_); rintro e wq6 ⟨rfl, hns, hbut⟩; have hR := HR.out.call hns hbut; have k6 := hR.box.c10; have fr6 := hR.fr 10; (try dsimp only at k6); replace HR := Lib.hid (hR.put 10 (.int .i64 x6) (m' := ⟨11, x1, x2, x3, x4, x5, 0, 0, 0, 0, x6, 0, 0, 0, 0, []⟩) (v' := .slice none 0 0) rfl); clear hns hbut hR)
    | (go_at_call 25; (with_reducible refine (N7.out.go _ (by omega) _ HR.out.ns).mono ?_); rintro e wq7 ⟨rfl, hns, hbut⟩; have hR := HR.out.call hns hbut; have k7 := hR.box.c11; have fr7 := hR.fr 11; (try dsimp only at k7); replace HR := Lib.hid (hR.put 11 (.int .i64 x7) (m' := ⟨11, x1, x2, x3, x4, x5, 0, 0, 0, 0, x6, x7, 0, 0, 0, []⟩) (v' := .slice none 0 0) rfl); clear hns hbut hR)
    | (go_at_call 25; (with_reducible refine (N8.out.go _ (by omega) _ HR.out.ns).mono ?_); rintro e wq8 ⟨rfl, hns, hbut⟩; have hR := HR.out.call hns hbut; have k8 := hR.box.c12; have fr8 := hR.fr 12; (try dsimp only at k8); replace HR := Lib.hid (hR.put 12 (.int .i64 x8) (m' := ⟨11, x1, x2, x3, x4, x5, 0, 0, 0, 0, x6, x7, x8, 0, 0, []⟩) (v' := .slice none 0 0) rfl); clear hns hbut hR)
    | (go_at_call 25; (with_reducible refine (N9.out.go _ (by omega) _ HR.out.ns).mono ?_); rintro e wq9 ⟨rfl, hns, hbut⟩; have hR := HR.out.call hns hbut; have k9 := hR.box.c13; have fr9 := hR.fr 13; (try dsimp only at k9); replace HR := Lib.hid (hR.put 13 (.int .i64 x9) (m' := ⟨11, x1, x2, x3, x4, x5, 0, 0, 0, 0, x6, x7, x8, x9, 0, []⟩) (v' := .slice none 0 0) rfl); clear hns hbut hR)
    | (go_at_call 25; (with_reducible refine (N10.out.go _ (by omega) _ HR.out.ns).mono ?_); rintro e wq10 ⟨rfl, hns, hbut⟩; have hR := HR.out.call hns hbut; have k10 := hR.box.c14; have fr10 := hR.fr 14; (try dsimp only at k10); replace HR := Lib.hid (hR.put 14 (.int .i64 x10) (m' := ⟨11, x1, x2, x3, x4, x5, 0, 0, 0, 0, x6, x7, x8, x9, x10, []⟩) (v' := .slice none 0 0) rfl); clear hns hbut hR)
    | (go_at_call 25; (with_reducible refine (N11.out.go _ (by omega) _ HR.out.ns).mono ?_); rintro e wq11 ⟨rfl, hns, hbut⟩; replace HR := Lib.hid (HR.out.call hns hbut); clear hns hbut))
  refine bodyM2 rfl W.heap.size ZC _ rfl rfl (setRow_heap _ _ _ _ _ _ HR.out.zero) rfl rfl ?_
  obtain ⟨h1, _, _, h4, h5, h6, h7⟩ := HR.out
  exact ⟨rfl, h1.row (by omega) (by omega) h7 _, h4.row (Nat.le_refl _) _⟩

def PathRel (w0 : World) (b o : Nat) (xs : List Nat) (gm gr : Nat) (W : World) (C : Nat) (sg : Nat → St) (m : Mg) (y : Nat → Int) (iv : Value) (wr : World) : Prop :=
  ∃ i : Nat, i ≤ C ∧ iv = .int .i64 (i : Int) ∧ ∃ p n c, RS w0 b o xs gm gr W (sg i) m (.slice p n c) wr ∧ OwnI W.heap.size wr (.slice p n c) ((List.range i).map y)
theorem range_snoc (y : Nat → Int) (i : Nat) : (List.range i).map y ++ [y i] = (List.range (i + 1)).map y := by rw [List.range_succ, List.map_append]; rfl
/-- What read answers of an Announce. -/
def PPost (w0 : World) (b o : Nat) (xs : List Nat) (gm gr : Nat) (W : World) (s : St) (m : Mg) (ps : List Int) (e : Ending) (w' : World) : Prop :=
  ∃ p n c, e = .returned (.tuple #[.agg (MC m (.slice p n c)), .int .i64 0]) ∧ NS w0 b o xs gm gr s w' ∧ Kept2 gm gr W w' ∧ OwnI W.heap.size w' (.slice p n c) ps

set_option maxRecDepth 100000 in
set_option maxHeartbeats 8000000 in
theorem read_11 (w0 : World) (b o : Nat) (xs : List Nat) (gm gr : Nat) (W : World) (hw : w0.heap.size ≤ W.heap.size) (s0 s1 s2 s3 s4 s5 s6 s7 s8 s9 s10 s11 s12 : St) (x1 x2 x3 x4 x5 x6 x7 x8 x9 x10 : Int) (C : Nat) (sg : Nat → St) (y : Nat → Int) (hC : C ≤ 32) (hs : s12 = sg 0) (XC : Int) (hXC : XC = (C : Int)) (HS : Hid (NS w0 b o xs gm gr s0 W)) (HK : Hid (RetQ 22 #[.int .i64 11] (.bool true)))
    (N0 : Hid (NxTo w0 b o xs gm gr s0 1 27 s1))
    (N1 : Hid (NxTo w0 b o xs gm gr s1 1 x1 s2))
    (N2 : Hid (NxTo w0 b o xs gm gr s2 2 x2 s3))
    (N3 : Hid (NxTo w0 b o xs gm gr s3 6 x3 s4))
    (N4 : Hid (NxTo w0 b o xs gm gr s4 2 x4 s5))
    (N5 : Hid (NxTo w0 b o xs gm gr s5 8 x5 s6))
    (N6 : Hid (NxTo w0 b o xs gm gr s6 1 x6 s7))
    (N7 : Hid (NxTo w0 b o xs gm gr s7 1 x7 s8))
    (N8 : Hid (NxTo w0 b o xs gm gr s8 1 x8 s9))
    (N9 : Hid (NxTo w0 b o xs gm gr s9 6 x9 s10))
    (N10 : Hid (NxTo w0 b o xs gm gr s10 1 x10 s11))
    (N11 : Hid (NxTo w0 b o xs gm gr s11 1 XC s12)) (NY : Hid (∀ i, i < C → NxTo w0 b o xs gm gr (sg i) 6 (y i) (sg (i + 1)))) (HI : Hid (∀ i, In64 (y i))) :
    Calls Try.prog 26 #[.func (Fn.func 25) #[] #[.pointer (some ⟨gm, 0, none⟩), .pointer (some ⟨gr, 0, none⟩)]] W (PPost w0 b o xs gm gr W (sg C) ⟨11, x1, x2, x3, x4, x5, 0, 0, 0, 0, x6, x7, x8, x9, x10, []⟩ ((List.range C).map y)) := by
  subst hXC hs
  have HR := Lib.hid (RS.start HS.out hw)
  unfold ZC at HR
  go_enter Try.func26, Try.ntmps26
  go_wp2_with (first
    | (go_at_call 22; (with_reducible refine (HK.out.go _).mono ?_); rintro e wk ⟨rfl, rfl⟩)
    | (go_at_call 25; (with_reducible refine (N0.out.go _ (by omega) _ HR.out.ns).mono ?_); rintro e wq0 ⟨rfl, hns, hbut⟩; have hR := HR.out.call hns hbut; have k0 := hR.box.c0; have fr0 := hR.fr 0; (try dsimp only at k0); replace HR := Lib.hid (hR.put 0 (.int .i64 11) (m' := ⟨11, 0, 0, 0, 0, 0, 0, 0, 0, 0, 0, 0, 0, 0, 0, []⟩) (v' := .slice none 0 0) rfl); clear hns hbut hR)
    | (go_at_call 25; (with_reducible refine (N1.out.go _ (by omega) _ HR.out.ns).mono ?_); rintro e wq1 ⟨rfl, hns, hbut⟩; have hR := HR.out.call hns hbut; have k1 := hR.box.c1; have fr1 := hR.fr 1; (try dsimp only at k1); replace HR := Lib.hid (hR.put 1 (.int .i64 x1) (m' := ⟨11, x1, 0, 0, 0, 0, 0, 0, 0, 0, 0, 0, 0, 0, 0, []⟩) (v' := .slice none 0 0) rfl); clear hns hbut hR)
    | (go_at_call 25; (with_reducible refine (N2.out.go _ (by omega) _ HR.out.ns).mono ?_); rintro e wq2 ⟨rfl, hns, hbut⟩; have hR := HR.out.call hns hbut; have k2 := hR.box.c2; have fr2 := hR.fr 2; (try dsimp only at k2); replace HR := Lib.hid (hR.put 2 (.int .i64 x2) (m' := ⟨11, x1, x2, 0, 0, 0, 0, 0, 0, 0, 0, 0, 0, 0, 0, []⟩) (v' := .slice none 0 0) rfl); clear hns hbut hR)
    | (go_at_call 25; (with_reducible refine (N3.out.go _ (by omega) _ HR.out.ns).mono ?_); rintro e wq3 ⟨rfl, hns, hbut⟩; have hR := HR.out.call hns hbut; have k3 := hR.box.c3; have fr3 := hR.fr 3; (try dsimp only at k3); replace HR := Lib.hid (hR.put 3 (.int .i64 x3) (m' := ⟨11, x1, x2, x3, 0, 0, 0, 0, 0, 0, 0, 0, 0, 0, 0, []⟩) (v' := .slice none 0 0) rfl); clear hns hbut hR)
    | (go_at_call 25; (with_reducible refine (N4.out.go _ (by omega) _ HR.out.ns).mono ?_); rintro e wq4 ⟨rfl, hns, hbut⟩; have hR := HR.out.call hns hbut; have k4 := hR.box.c4; have fr4 := hR.fr 4; (try dsimp only at k4); replace HR := Lib.hid (hR.put 4 (.int .i64 x4) (m' := ⟨11, x1, x2, x3, x4, 0, 0, 0, 0, 0, 0, 0, 0, 0, 0, []⟩) (v' := .slice none 0 0) rfl); clear hns hbut hR)
    | (go_at_call 25; (with_reducible refine (N5.out.go _ (by omega) _ HR.out.ns).mono ?_); rintro e wq5 ⟨rfl, hns, hbut⟩; have hR := HR.out.call hns hbut; have k5 := hR.box.c5; have fr5 := hR.fr 5; (try dsimp only at k5); have kk := hR.box.c0; (try dsimp only at kk); replace HR := Lib.hid (hR.put 5 (.int .i64 x5) (m' := ⟨11, x1, x2, x3, x4, x5, 0, 0, 0, 0, 0, 0, 0, 0, 0, []⟩) (v' := .slice none 0 0) rfl); clear hns hbut hR)
    | (go_at_call 25; (with_reducible refine (N6.out.go _ (by omega) _ HR.out.ns).mono ?_); rintro e wq6 ⟨rfl, hns, hbut⟩; have hR := HR.out.call hns hbut; have k6 := hR.box.c10; have fr6 := hR.fr 10; (try dsimp only at k6); replace HR := Lib.hid (hR.put 10 (.int .i64 x6) (m' := ⟨11, x1, x2, x3, x4, x5, 0, 0, 0, 0, x6, 0, 0, 0, 0, []⟩) (v' := .slice none 0 0) rfl); clear hns hbut hR)
    | (go_at_call 25; (with_reducible refine (N7.out.go _ (by omega) _ HR.out.ns).mono ?_); rintro e wq7 ⟨rfl, hns, hbut⟩; have hR := HR.out.call hns hbut; have k7 := hR.box.c11; have fr7 := hR.fr 11; (try dsimp only at k7); replace HR := Lib.hid (hR.put 11 (.int .i64 x7) (m' := ⟨11, x1, x2, x3, x4, x5, 0, 0, 0, 0, x6, x7, 0, 0, 0, []⟩) (v' := .slice none 0 0) rfl); clear hns hbut hR)
    | (go_at_call 25; (with_reducible refine (N8.out.go _ (by omega) _ HR.out.ns).mono ?_); rintro e wq8 ⟨rfl, hns, hbut⟩; have hR := HR.out.call hns hbut; have k8 := hR.box.c12; have fr8 := hR.fr 12; (try dsimp only at k8); replace HR := Lib.hid (hR.put 12 (.int .i64 x8) (m' := ⟨11, x1, x2, x3, x4, x5, 0, 0, 0, 0, x6, x7, x8, 0, 0, []⟩) (v' := .slice none 0 0) rfl); clear hns hbut hR)
    | (go_at_call 25; (with_reducible refine (N9.out.go _ (by omega) _ HR.out.ns).mono ?_); rintro e wq9 ⟨rfl, hns, hbut⟩; have hR := HR.out.call hns hbut; have k9 := hR.box.c13; have fr9 := hR.fr 13; (try dsimp only at k9); replace HR := Lib.hid (hR.put 13 (.int .i64 x9) (m' := ⟨11, x1, x2, x3, x4, x5, 0, 0, 0, 0, x6, x7, x8, x9, 0, []⟩) (v' := .slice none 0 0) rfl); clear hns hbut hR)
    | (go_at_call 25; (with_reducible refine (N10.out.go _ (by omega) _ HR.out.ns).mono ?_); rintro e wq10 ⟨rfl, hns, hbut⟩; have hR := HR.out.call hns hbut; have k10 := hR.box.c14; have fr10 := hR.fr 14; (try dsimp only at k10); replace HR := Lib.hid (hR.put 14 (.int .i64 x10) (m' := ⟨11, x1, x2, x3, x4, x5, 0, 0, 0, 0, x6, x7, x8, x9, x10, []⟩) (v' := .slice none 0 0) rfl); clear hns hbut hR)
    | (go_at_call 25; (with_reducible refine (N11.out.go _ (by omega) _ HR.out.ns).mono ?_); rintro e wq11 ⟨rfl, hns, hbut⟩; replace HR := Lib.hid (HR.out.call hns hbut); clear hns hbut))
  go_loopw [88] (fun iv wr => PathRel w0 b o xs gm gr W C sg ⟨11, x1, x2, x3, x4, x5, 0, 0, 0, 0, x6, x7, x8, x9, x10, []⟩ y iv wr) (fun iv _ => C - (intOf iv).toNat)
  case atStart => exact ⟨0, by omega, rfl, none, 0, 0, HR.out, OwnI.nil (by have := HR.out.2.2.2.1.1; omega)⟩
  case round =>
    obtain ⟨i, hi, rfl, p, n, c, hR, hO⟩ := hrel
    have HL := Lib.hid hR
    have HO := Lib.hid hO
    clear hR hO
    rcases Nat.lt_or_ge i C with gi | gi
    · have hd : decide ((i : Int) < (C : Int)) = true := decide_eq_true (by omega)
      have kp := HL.out.box.c15
      have fp := HL.out.fr 15
      have HN := Lib.hid (NY.out i gi)
      have HYI := Lib.hid (HI.out i)
      go_wp2_with fail
      go_region_law (first
        | (refine step_appI rfl _ _ rfl W.heap.size _ (.slice p n c) wn.heap.size ((List.range i).map y) (y i) rfl rfl (HO2.out.below (bAl (bRef wn) _)) ⟨_, heap_alloc_new wn _⟩ HYI.out (by simp; omega) ?_; intro v' w' hown hoth hbel; obtain ⟨p2, n2, c2, rfl⟩ := hown.form; have HR2 := Lib.hid ((HL2.out.below (bAl (bRef wn) _)).app hoth hbel); have HO3 := Lib.hid hown; have kq := HR2.out.box.c15; have fq := HR2.out.fr 15; clear hown hoth hbel)
        | (go_simp; go_at_call 25; (first | (with_reducible refine (HN.out.go _ (by omega) _ HL.out.drew.ns).mono ?_) | (with_reducible refine (HN.out.go _ (by omega) _ HL.out.ns).mono ?_)); rintro e wn ⟨rfl, hns, hbut⟩; have HL2 := Lib.hid (RS.call HL.out hns ⟨hbut.1, hbut.2⟩); have HO2 := Lib.hid (OwnI.but HO.out ⟨hbut.1, hbut.2⟩ HL.out.ns.1 HL.out.ns.2.1.choose_spec.choose_spec.1 (by decide) (by decide)); have kn := HL2.out.box.c15; have fn := HL2.out.fr 15; have kn2 := fun ob => (HL2.out.below (bAl (bRef wn) ob)).box.c15; clear hns hbut))
      all_goals
        go_wp2_with fail
        go_roundw
        case rel => exact ⟨i + 1, gi, by go_num, p2, n2, c2, HR2.out.put 15 (.slice p2 n2 c2) (m' := ⟨11, x1, x2, x3, x4, x5, 0, 0, 0, 0, x6, x7, x8, x9, x10, []⟩) rfl, (show OwnI W.heap.size w' (.slice p2 n2 c2) ((List.range (i + 1)).map y) by rw [← range_snoc]; exact HO3.out).put HR2.out.box (by decide)⟩
        case measure => simp [intOf]; omega
    · obtain rfl : i = C := by omega
      go_wp2_with (first
        | ((with_reducible refine at_loadM ?_); refine wpList_loadM rfl _ rfl (W.heap.size + 1) rfl (MC ⟨11, x1, x2, x3, x4, x5, 0, 0, 0, 0, x6, x7, x8, x9, x10, []⟩ (.slice p n c)) _ HL.out.box rfl ?_)
        | ((with_reducible refine at_storeM ?_); refine wpList_storeM rfl _ _ rfl W.heap.size (MC ⟨11, x1, x2, x3, x4, x5, 0, 0, 0, 0, x6, x7, x8, x9, x10, []⟩ (.slice p n c)) rfl rfl (MC_one _ _ _ _) rfl _ HL.out.zero rfl ?_))
      refine bodyM2 rfl W.heap.size (MC ⟨11, x1, x2, x3, x4, x5, 0, 0, 0, 0, x6, x7, x8, x9, x10, []⟩ (.slice p n c)) _ rfl rfl (setRow_heap _ _ _ _ _ _ HL.out.zero) rfl rfl ?_
      obtain ⟨h1, _, h3, h4, h5, h6, h7⟩ := HL.out
      exact ⟨p, n, c, rfl, h1.row (by omega) (by omega) h7 _, h4.row (Nat.le_refl _) _, HO.out.row _ h3 (by decide)⟩

end Go.Proofs.Ytcdcklkbjfhhnaa
