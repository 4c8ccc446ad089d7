/- Package fdb: Learn where an address is said for good, where there is no room; SetPlace. Written by gen_fdroom.py. -/
import Derived.Test.YtkbodcgamfkegaaFdLearn
namespace Go.Proofs.Ytkbodcgamfkegaa
open Go.RowKit Go.Joins Go.Maps Go.MapKept Go.ChangeMaps Go.WideMaps

section
variable {B m : Nat} {w : World} {b : TB} {s : TS}
set_option maxHeartbeats 4000000 in
theorem learn_said (h : Tab B w b m s) (p : Pl) (hp : p.Good) (h0 : 1 ≤ p.1) (h1 : p.1 ≤ 4094) (a : Nat) (ha : a < s.n) (now : Int) (hg : p.2.y0 % 2 = 0) (u : Int) (hu : (u == 0) = false) (hS : (lookL s.S p).getD 0 = u) :
    Calls Try.prog 15 #[.pointer (some ⟨b.t, 0, none⟩), PV p, .int .i64 (a : Int), .int .i64 now] w fun e w' => e = .returned (.int .i64 0) ∧ Below w.heap.size w w' := by
  have H0 := Lib.hid (HB.new h p)
  have HP : Hid (∀ W, Tab B W b m s → Calls Try.prog 29 #[.pointer (some ⟨b.t, 0, none⟩), .int .i64 (a : Int)] W fun e w' => e = .returned (.bool true) ∧ w' = W) := Lib.hid (fun W hW => by
    have k := hasPort_any hW (a : Int)
    rw [decide_eq_true (show 0 ≤ (a : Int) ∧ (a : Int) < (s.n : Int) from ⟨by omega, by omega⟩)] at k
    exact k)
  have HV : Hid (∀ W, Calls Try.prog 27 #[.int .i64 p.1] W fun e w' => e = .returned (.bool true) ∧ w' = W) := Lib.hid (fun W => isVid_yes p.1 h0 h1 W)
  have HG : Hid (∀ W, Calls Try.prog 34 #[.agg #[.int .u8 (p.2.y0 : Int), .int .u8 (p.2.y1 : Int), .int .u8 (p.2.y2 : Int), .int .u8 (p.2.y3 : Int), .int .u8 (p.2.y4 : Int), .int .u8 (p.2.y5 : Int)]] W fun e w' => e = .returned (.bool false) ∧ Below W.heap.size W w') := Lib.hid (fun W => group_no p.2 hg hp.2.g0 W)
  have HL : Hid (∀ W, Tab B W b m s → (Instr.lookup 78 (.map (some b.s)) (PV p) false).run Try.prog W = .ok (.int .i64 u) W) := Lib.hid (fun W hW => by
    have k := hW.ms.look p hp
    have e : (lookL s.S p).getD MS.zero = u := hS
    rw [e] at k
    exact k)
  have HGood := Lib.hid hp
  have hu2 : (u != 0) = true := by simpa using hu
  clear h h0 h1 ha hg hS hp
  go_enter Try.func15, Try.ntmps15
  go_wp2_with fail
  obtain ⟨W, hW⟩ : ∃ W, w.alloc (.cells #[.int .i64 p.1, .int .u8 (p.2.y0 : Int), .int .u8 (p.2.y1 : Int), .int .u8 (p.2.y2 : Int), .int .u8 (p.2.y3 : Int), .int .u8 (p.2.y4 : Int), .int .u8 (p.2.y5 : Int)] 42) = W := ⟨_, rfl⟩
  rw [hW] at H0 ⊢
  clear hW
  obtain ⟨c0, c1, c2, c3, c4, k0, k1, k2, k3, k4, k5, k6, -⟩ := H0.out.all
  go_wp2_with (first
    | (go_at_call 27; (with_reducible refine (HV.out _).mono ?_); rintro e w1 ⟨rfl, rfl⟩)
    | (go_at_call 29; (with_reducible refine (HP.out _ H0.out.tab).mono ?_); rintro e w2 ⟨rfl, rfl⟩)
    | (go_at_call 34; (with_reducible refine (HG.out _).mono ?_); rintro e w3 ⟨rfl, hb⟩; have H3 := Lib.hid (H0.out.below hb); clear hb; obtain ⟨d0, d1, d2, d3, d4, e0, e1, e2, e3, e4, e5, e6, -⟩ := H3.out.all))
  have l1 := HL.out w3.drew H3.out.drew.tab
  go_region
  all_goals
    go_wp2_with fail
    go_ret
    exact ⟨rfl, H3.out.drew.bel⟩
set_option maxHeartbeats 4000000 in
theorem learn_full (h : Tab B w b m s) (hm : m < 1000000) (p : Pl) (hp : p.Good) (h0 : 1 ≤ p.1) (h1 : p.1 ≤ 4094) (a : Nat) (ha : a < s.n) (now : Int) (hg : p.2.y0 % 2 = 0) (hS : (lookL s.S p).getD 0 = 0) (hE : OkE s) (hr : ¬ (whereV s p ≠ 0 ∨ ((s.S.length + s.E.length : Nat) : Int) < s.room)) :
    Calls Try.prog 15 #[.pointer (some ⟨b.t, 0, none⟩), PV p, .int .i64 (a : Int), .int .i64 now] w fun e w' => e = .returned (.int .i64 30) ∧ Below w.heap.size w w' := by
  have H0 := Lib.hid (HB.new h p)
  have HP : Hid (∀ W, Tab B W b m s → Calls Try.prog 29 #[.pointer (some ⟨b.t, 0, none⟩), .int .i64 (a : Int)] W fun e w' => e = .returned (.bool true) ∧ w' = W) := Lib.hid (fun W hW => by
    have k := hasPort_any hW (a : Int)
    rw [decide_eq_true (show 0 ≤ (a : Int) ∧ (a : Int) < (s.n : Int) from ⟨by omega, by omega⟩)] at k
    exact k)
  have HV : Hid (∀ W, Calls Try.prog 27 #[.int .i64 p.1] W fun e w' => e = .returned (.bool true) ∧ w' = W) := Lib.hid (fun W => isVid_yes p.1 h0 h1 W)
  have HRm : Hid (∀ W, Tab B W b m s → Calls Try.prog 35 #[.pointer (some ⟨b.t, 0, none⟩), PV p] W fun e w' => e = .returned (.bool false) ∧ Below W.heap.size W w') := Lib.hid (fun W hW => by
    have k := hasRoom_any hW (Nat.le_of_lt hm) p hp hE
    rw [decide_eq_false hr] at k
    exact k)
  have HG : Hid (∀ W, Calls Try.prog 34 #[.agg #[.int .u8 (p.2.y0 : Int), .int .u8 (p.2.y1 : Int), .int .u8 (p.2.y2 : Int), .int .u8 (p.2.y3 : Int), .int .u8 (p.2.y4 : Int), .int .u8 (p.2.y5 : Int)]] W fun e w' => e = .returned (.bool false) ∧ Below W.heap.size W w') := Lib.hid (fun W => group_no p.2 hg hp.2.g0 W)
  have HL : Hid (∀ W, Tab B W b m s → (Instr.lookup 78 (.map (some b.s)) (PV p) false).run Try.prog W = .ok (.int .i64 0) W) := Lib.hid (fun W hW => by
    have k := hW.ms.look p hp
    have e : (lookL s.S p).getD MS.zero = 0 := hS
    rw [e] at k
    exact k)
  have HM := Lib.hid hm
  have HGood := Lib.hid hp
  clear h h0 h1 ha hg hS hE hr hp hm
  go_enter Try.func15, Try.ntmps15
  go_wp2_with fail
  obtain ⟨W, hW⟩ : ∃ W, w.alloc (.cells #[.int .i64 p.1, .int .u8 (p.2.y0 : Int), .int .u8 (p.2.y1 : Int), .int .u8 (p.2.y2 : Int), .int .u8 (p.2.y3 : Int), .int .u8 (p.2.y4 : Int), .int .u8 (p.2.y5 : Int)] 42) = W := ⟨_, rfl⟩
  rw [hW] at H0 ⊢
  clear hW
  obtain ⟨c0, c1, c2, c3, c4, k0, k1, k2, k3, k4, k5, k6, -⟩ := H0.out.all
  go_wp2_with (first
    | (go_at_call 27; (with_reducible refine (HV.out _).mono ?_); rintro e w1 ⟨rfl, rfl⟩)
    | (go_at_call 29; (with_reducible refine (HP.out _ H0.out.tab).mono ?_); rintro e w2 ⟨rfl, rfl⟩)
    | (go_at_call 34; (with_reducible refine (HG.out _).mono ?_); rintro e w3 ⟨rfl, hb⟩; have H3 := Lib.hid (H0.out.below hb); clear hb; obtain ⟨d0, d1, d2, d3, d4, e0, e1, e2, e3, e4, e5, e6, -⟩ := H3.out.all))
  have l1 := HL.out w3.drew H3.out.drew.tab
  go_region
  all_goals
    go_wp2_with fail
    have H4 := Lib.hid H3.out.drew
    obtain ⟨X, hX⟩ : ∃ X, w3.drew = X := ⟨_, rfl⟩
    rw [hX] at H4 ⊢
    clear hX l1 d0 d1 d2 d3 d4 e0 e1 e2 e3 e4 e5 e6
    obtain ⟨d0, d1, d2, d3, d4, e0, e1, e2, e3, e4, e5, e6, -⟩ := H4.out.all
    go_wp2_with (go_at_call 35; (with_reducible refine (HRm.out _ H4.out.tab).mono ?_); rintro e w5 ⟨rfl, hb⟩; have H5 := Lib.hid (H4.out.below hb); clear hb; obtain ⟨f0, f1, f2, f3, f4, g0, g1, g2, g3, g4, g5, g6, -⟩ := H5.out.all)
    all_goals
      go_ret
      exact ⟨rfl, H5.out.bel⟩
set_option maxHeartbeats 4000000 in
theorem setPlace_ok (h : Tab B w b m s) (hm : m < 1000000) (hB : B ≤ w.heap.size) (p : Pl) (hp : p.Good) (h0 : 1 ≤ p.1) (h1 : p.1 ≤ 4094) (P : Int) (hP0 : 0 < P) (hP1 : P < ((2 ^ s.n : Nat) : Int)) (hE : OkE s) (hr : whereV s p ≠ 0 ∨ ((s.S.length + s.E.length : Nat) : Int) < s.room) :
    Calls Try.prog 16 #[.pointer (some ⟨b.t, 0, none⟩), PV p, .int .i64 P] w fun e w' => e = .returned (.int .i64 0) ∧ Tab B w' b (m + 1) { s with S := putL s.S p P, E := delL s.E p } ∧ Below B w w' := by
  have H0 := Lib.hid (HB.new h p)
  have HV : Hid (∀ W, Calls Try.prog 27 #[.int .i64 p.1] W fun e w' => e = .returned (.bool true) ∧ w' = W) := Lib.hid (fun W => isVid_yes p.1 h0 h1 W)
  have HS : Hid (∀ W, Tab B W b m s → Calls Try.prog 36 #[.pointer (some ⟨b.t, 0, none⟩), .int .i64 P] W fun e w' => e = .returned (.bool true) ∧ w' = W) := Lib.hid (fun W hW => by
    have k := isSet_any hW P
    rw [decide_eq_true (show 0 ≤ P ∧ P < ((2 ^ s.n : Nat) : Int) from ⟨by omega, hP1⟩)] at k
    exact k)
  have HRm : Hid (∀ W, Tab B W b m s → Calls Try.prog 35 #[.pointer (some ⟨b.t, 0, none⟩), PV p] W fun e w' => e = .returned (.bool true) ∧ Below W.heap.size W w') := Lib.hid (fun W hW => by
    have k := hasRoom_any hW (Nat.le_of_lt hm) p hp hE
    rw [decide_eq_true hr] at k
    exact k)
  have d1 : (P == 0) = false := by rw [beq_eq_false_iff_ne]; omega
  have HM := Lib.hid hm
  have HGood := Lib.hid hp
  have HBB := Lib.hid hB
  clear h h0 h1 hP0 hP1 hE hr hp hm hB
  go_enter Try.func16, Try.ntmps16
  go_wp2_with fail
  obtain ⟨W, hW⟩ : ∃ W, w.alloc (.cells #[.int .i64 p.1, .int .u8 (p.2.y0 : Int), .int .u8 (p.2.y1 : Int), .int .u8 (p.2.y2 : Int), .int .u8 (p.2.y3 : Int), .int .u8 (p.2.y4 : Int), .int .u8 (p.2.y5 : Int)] 42) = W := ⟨_, rfl⟩
  rw [hW] at H0 ⊢
  clear hW
  obtain ⟨c0, c1, c2, c3, c4, k0, k1, k2, k3, k4, k5, k6, -⟩ := H0.out.all
  go_wp2_with (first
    | (go_at_call 27; (with_reducible refine (HV.out _).mono ?_); rintro e w1 ⟨rfl, rfl⟩)
    | (go_at_call 36; (with_reducible refine (HS.out _ H0.out.tab).mono ?_); rintro e w2 ⟨rfl, rfl⟩)
    | (go_at_call 35; (with_reducible refine (HRm.out _ H0.out.tab).mono ?_); rintro e w5 ⟨rfl, hb⟩; have H5 := Lib.hid (H0.out.below hb); clear hb; obtain ⟨f0, f1, f2, f3, f4, g0, g1, g2, g3, g4, g5, g6, -⟩ := H5.out.all))
  have HTd : Tab B w5.drew b m s := H5.out.drew.tab
  obtain ⟨w6, hrun, hmap, hturn⟩ := HTd.me.del p HGood.out 0
  have hrun2 : (Builtin.delete_ #[79, 42] 0 #[.map (some b.e), PV p]).run Try.prog w5.drew = .ok (.tuple #[]) w6 := hrun
  have HF := Lib.hid (HTd.setE hturn (Nat.le_refl m) hmap)
  have q6 := (turned_block hturn (turned_not hturn H5.out.drew.box)).trans H5.out.drew.box
  have HB6 : Hid (Below B w w6) := Lib.hid (((H5.out.drew.bel.mono HBB.out)).trans (turned_below hturn HTd.be))
  obtain ⟨v0, v1, v2, v3, v4⟩ := HF.out.cells
  have z0 := cell_of_row _ _ 0 _ _ _ q6
  have z1 := cell_of_row _ _ 1 _ _ _ q6
  have z2 := cell_of_row _ _ 2 _ _ _ q6
  have z3 := cell_of_row _ _ 3 _ _ _ q6
  have z4 := cell_of_row _ _ 4 _ _ _ q6
  have z5 := cell_of_row _ _ 5 _ _ _ q6
  have z6 := cell_of_row _ _ 6 _ _ _ q6
  simp only [List.getElem?_toArray, List.getElem?_cons_zero, List.getElem?_cons_succ] at z0 z1 z2 z3 z4 z5 z6
  have HTd2 : Tab B w6.drew b m { s with E := delL s.E p } := HF.out.below (bDr (bRef w6) 1)
  obtain ⟨w7, hrun7, hmap7, hturn7⟩ := HTd2.ms.put p HGood.out P (by have := HM.out; unfold maxLen; omega)
  have hrun8 : (Instr.mapUpdate 78 (.map (some b.s)) (PV p) (.int .i64 P)).run Try.prog w6.drew = .ok () w7 := hrun7
  have HF7 := Lib.hid (HTd2.setS hturn7 (Nat.le_succ m) hmap7)
  have HB7 : Hid (Below B w w7) := Lib.hid ((HB6.out.trans ((bDr (bRef w6) 1).mono (Nat.le_trans HBB.out (by have h1 := H5.out.bel.size; have h2 := (turned_below (B := 0) hturn (Nat.zero_le _)).size; have h3 : w5.drew.heap.size = w5.heap.size := rfl; omega)))).trans (turned_below hturn7 HTd2.bs))
  clear hrun hmap hturn q6 HTd HTd2 hrun7 hmap7 hturn7
  go_region
  all_goals
    go_wp2_with fail
    go_region
    all_goals
      go_wp2_with fail
      go_ret
      exact ⟨rfl, HF7.out, HB7.out⟩
end

end Go.Proofs.Ytkbodcgamfkegaa
