/- PairSwitch: the first domain's time holds as long as it is fresh, then the second one's, until the first one's is told again; for all arguments. -/
import Derived.Test.YtfeoppbincldfaaFPairSwitch
import Derived.Test.YtfeoppbincldfaaPrLaw
import Derived.Test.YtfeoppbincldfaaLow
namespace Go.Proofs.Ytfeoppbincldfaa
open Go.RowKit Go.Joins

theorem low29 (x : Int) : bits .and .i64 x 536870911 = x % 536870912 := and_low x 29 (by omega)
theorem low40 (x : Int) : bits .and .i64 x 1099511627775 = x % 1099511627776 := and_low x 40 (by omega)
section
variable {W : World} {p k0 k1 : Nat} {most a0 t0 a1 t1 l x : Int}
theorem two_atS : (PP.two most a0 t0 a1 t1 l).atS x = PP.two most a0 t0 a1 t1 ((PP.two most a0 t0 a1 t1 l).held1 x) := rfl
theorem two_at0 (h : Pw W p k0 k1 (PP.two most a0 t0 a1 t1 l)) (ok : (PP.two most a0 t0 a1 t1 l).Ok) (hx : In64 x) (i0 : In64 (x - a0)) (i1 : In64 (x - a1)) (j0 : In64 (t0 + (x - a0))) (hm : x - a0 ≤ most) {y : Int} (hy : t0 + (x - a0) = y) :
    Calls Try.prog 16 #[.pointer (some ⟨p, 0, none⟩), .int .i64 x] W fun e w' => e = .returned (.tuple #[.int .i64 y, .bool true]) ∧ LeaveP p k0 k1 W (PP.two most a0 t0 a1 t1 0) w' := by
  have key := pat_any h ok hx
  have e1 := two_held1 (most := most) (t0 := t0) (t1 := t1) (last := l) i0 i1
  rw [if_pos hm] at e1
  have e2 : (PP.two most a0 t0 a1 t1 l).atS x = PP.two most a0 t0 a1 t1 0 := by rw [two_atS, e1]
  obtain ⟨q1, q2⟩ := tol_time (s := CS.new 0) i0 j0
  have e3 : (PP.two most a0 t0 a1 t1 l).atT x = y := by
    unfold PP.atT
    rw [e2, if_pos (show (PP.two most a0 t0 a1 t1 0).last = 0 from rfl)]
    exact q1.trans hy
  have e4 : (PP.two most a0 t0 a1 t1 l).atB x = true := by
    unfold PP.atB
    rw [e2, if_pos (show (PP.two most a0 t0 a1 t1 0).last = 0 from rfl)]
    exact q2
  rw [e2, e3, e4] at key
  exact key
theorem two_at1 (h : Pw W p k0 k1 (PP.two most a0 t0 a1 t1 l)) (ok : (PP.two most a0 t0 a1 t1 l).Ok) (hx : In64 x) (i0 : In64 (x - a0)) (i1 : In64 (x - a1)) (j1 : In64 (t1 + (x - a1))) (hn : ¬ x - a0 ≤ most) (hm : x - a1 ≤ most) {y : Int} (hy : t1 + (x - a1) = y) :
    Calls Try.prog 16 #[.pointer (some ⟨p, 0, none⟩), .int .i64 x] W fun e w' => e = .returned (.tuple #[.int .i64 y, .bool true]) ∧ LeaveP p k0 k1 W (PP.two most a0 t0 a1 t1 1) w' := by
  have key := pat_any h ok hx
  have e1 := two_held1 (most := most) (t0 := t0) (t1 := t1) (last := l) i0 i1
  rw [if_neg hn, if_pos hm] at e1
  have e2 : (PP.two most a0 t0 a1 t1 l).atS x = PP.two most a0 t0 a1 t1 1 := by rw [two_atS, e1]
  obtain ⟨q1, q2⟩ := tol_time (s := CS.new 1) i1 j1
  have e3 : (PP.two most a0 t0 a1 t1 l).atT x = y := by
    unfold PP.atT
    rw [e2, if_neg (show ¬ (PP.two most a0 t0 a1 t1 1).last = 0 from fun h => by cases h), if_pos (show (PP.two most a0 t0 a1 t1 1).last = 1 from rfl)]
    exact q1.trans hy
  have e4 : (PP.two most a0 t0 a1 t1 l).atB x = true := by
    unfold PP.atB
    rw [e2, if_neg (show ¬ (PP.two most a0 t0 a1 t1 1).last = 0 from fun h => by cases h), if_pos (show (PP.two most a0 t0 a1 t1 1).last = 1 from rfl)]
    exact q2
  rw [e2, e3, e4] at key
  exact key
end
set_option maxRecDepth 20000 in
set_option maxHeartbeats 4000000 in
theorem switch_any (x0 x1 x2 : Int) (w : World) : Calls Try.prog 6 #[.int .i64 x0, .int .i64 x1, .int .i64 x2] w fun e w' => e = .returned (.bool true) ∧ Below w.heap.size w w' := by
  have HH := Lib.hid (fun W => head21_ret W)
  have HN := Lib.hid (fun W => pnew_ok (x := 1073741824) (by decide) W)
  have l0 := low40 x0
  have l1 := low40 x1
  have l2 := low29 x2
  obtain ⟨a, ha⟩ : ∃ a, x0 % 1099511627776 = a := ⟨_, rfl⟩
  obtain ⟨b, hb⟩ : ∃ a, x1 % 1099511627776 = a := ⟨_, rfl⟩
  obtain ⟨r, hr⟩ : ∃ g, x2 % 536870912 = g := ⟨_, rfl⟩
  obtain ⟨g, hg⟩ : ∃ g, 1 + r = g := ⟨_, rfl⟩
  have w1 : wrap64 (1 + r) = g := by unfold wrap64; omega
  have a0 : 0 ≤ a := by omega
  have a1 : a ≤ 1099511627775 := by omega
  have b0 : 0 ≤ b := by omega
  have b1 : b ≤ 1099511627775 := by omega
  have g0 : 1 ≤ g := by omega
  have g1 : g ≤ 536870912 := by omega
  rw [ha] at l0
  rw [hb] at l1
  rw [hr] at l2
  have i64 : ∀ x : Int, -9000000000000000000 ≤ x → x ≤ 9000000000000000000 → In64 x := fun x h1 h2 => ⟨by omega, by omega⟩
  obtain ⟨s1, hs1⟩ : ∃ z, 5368709120 + g = z := ⟨_, rfl⟩
  have w2 : wrap64 (5368709120 + g) = s1 := by unfold wrap64; omega
  obtain ⟨y0, hy0⟩ : ∃ z, a + 1073741824 = z := ⟨_, rfl⟩
  have w3 : wrap64 (a + 1073741824) = y0 := by unfold wrap64; omega
  obtain ⟨z0, hz0⟩ : ∃ z, b + 1073741824 = z := ⟨_, rfl⟩
  have w4 : wrap64 (b + 1073741824) = z0 := by unfold wrap64; omega
  obtain ⟨z1, hz1⟩ : ∃ z, z0 + 1 = z := ⟨_, rfl⟩
  have w5 : wrap64 (z0 + 1) = z1 := by unfold wrap64; omega
  obtain ⟨y1, hy1⟩ : ∃ z, z1 - g = z := ⟨_, rfl⟩
  have w6 : wrap64 (z1 - g) = y1 := by unfold wrap64; omega
  have o0 := PP.Ok.new (x := 1073741824) (i64 _ (by decide) (by decide))
  have o1 : (⟨(CS.new 0).tol 5368709120 a, CS.new 1, 1073741824, false, -1⟩ : PP).Ok := ⟨tol_ok (i64 _ (by decide) (by decide)) (i64 _ (by omega) (by omega)), CS.Ok.new 1, rfl, rfl, show In64 1073741824 from ⟨by decide, by decide⟩, .inl rfl⟩
  have HT0 : Hid (∀ W p k0 k1, Pw W p k0 k1 (PP.new 1073741824) → Calls Try.prog 32 #[.pointer (some ⟨p, 0, none⟩), .int .i64 0, .int .i64 5368709120, .int .i64 a] W fun e w' => e = .returned (.bool true) ∧ LeaveP p k0 k1 W ⟨(CS.new 0).tol 5368709120 a, CS.new 1, 1073741824, false, -1⟩ w') := Lib.hid (fun W p k0 k1 h => told_zero h o0 rfl (i64 _ (by omega) (by omega)))
  have HT1 : Hid (∀ W p k0 k1, Pw W p k0 k1 ⟨(CS.new 0).tol 5368709120 a, CS.new 1, 1073741824, false, -1⟩ → Calls Try.prog 32 #[.pointer (some ⟨p, 0, none⟩), .int .i64 1, .int .i64 s1, .int .i64 b] W fun e w' => e = .returned (.bool true) ∧ LeaveP p k0 k1 W (PP.two 1073741824 5368709120 a s1 b (-1)) w') := Lib.hid (fun W p k0 k1 h => told_one h o1 rfl (i64 _ (by omega) (by omega)))
  have ok : ∀ c l : Int, 0 ≤ c → c ≤ 10000000000 → (l = -1 ∨ l = 0 ∨ l = 1) → (PP.two 1073741824 c a s1 b l).Ok := fun c l c0 c1 hl => two_ok (i64 _ (by decide) (by decide)) (i64 _ (by omega) (by omega)) (i64 _ (by omega) (by omega)) (i64 _ (by omega) (by omega)) (i64 _ (by omega) (by omega)) hl
  have HA0 : Hid (∀ W p k0 k1, Pw W p k0 k1 (PP.two 1073741824 5368709120 a s1 b (-1)) → Calls Try.prog 16 #[.pointer (some ⟨p, 0, none⟩), .int .i64 6442450944] W fun e w' => e = .returned (.tuple #[.int .i64 y0, .bool true]) ∧ LeaveP p k0 k1 W (PP.two 1073741824 5368709120 a s1 b 0) w') := Lib.hid (fun W p k0 k1 h => two_at0 h (ok _ _ (by decide) (by decide) (by decide)) (i64 _ (by decide) (by decide)) (i64 _ (by decide) (by decide)) (i64 _ (by omega) (by omega)) (i64 _ (by omega) (by omega)) (by decide) (by omega))
  have HA1 : Hid (∀ W p k0 k1, Pw W p k0 k1 (PP.two 1073741824 5368709120 a s1 b 0) → Calls Try.prog 16 #[.pointer (some ⟨p, 0, none⟩), .int .i64 6442450945] W fun e w' => e = .returned (.tuple #[.int .i64 y1, .bool true]) ∧ LeaveP p k0 k1 W (PP.two 1073741824 5368709120 a s1 b 1) w') := Lib.hid (fun W p k0 k1 h => two_at1 h (ok _ _ (by decide) (by decide) (by decide)) (i64 _ (by decide) (by decide)) (i64 _ (by decide) (by decide)) (i64 _ (by omega) (by omega)) (i64 _ (by omega) (by omega)) (by decide) (by omega) (by omega))
  have HT2 : Hid (∀ W p k0 k1, Pw W p k0 k1 (PP.two 1073741824 5368709120 a s1 b 1) → Calls Try.prog 32 #[.pointer (some ⟨p, 0, none⟩), .int .i64 0, .int .i64 7516192768, .int .i64 a] W fun e w' => e = .returned (.bool true) ∧ LeaveP p k0 k1 W (PP.two 1073741824 7516192768 a s1 b 1) w') := Lib.hid (fun W p k0 k1 h => told_zero h (ok _ _ (by decide) (by decide) (by decide)) rfl (i64 _ (by omega) (by omega)))
  have HA2 : Hid (∀ W p k0 k1, Pw W p k0 k1 (PP.two 1073741824 7516192768 a s1 b 1) → Calls Try.prog 16 #[.pointer (some ⟨p, 0, none⟩), .int .i64 7516192768] W fun e w' => e = .returned (.tuple #[.int .i64 a, .bool true]) ∧ LeaveP p k0 k1 W (PP.two 1073741824 7516192768 a s1 b 0) w') := Lib.hid (fun W p k0 k1 h => two_at0 h (ok _ _ (by decide) (by decide) (by decide)) (i64 _ (by decide) (by decide)) (i64 _ (by decide) (by decide)) (i64 _ (by omega) (by omega)) (i64 _ (by omega) (by omega)) (by decide) (by omega))
  have HP2 : Hid (∀ W p k0 k1, Pw W p k0 k1 (PP.two 1073741824 7516192768 a s1 b 0) → Calls Try.prog 18 #[.pointer (some ⟨p, 0, none⟩), .int .i64 7516192768] W fun e w' => e = .returned (.int .i64 0) ∧ LeaveP p k0 k1 W (PP.two 1073741824 7516192768 a s1 b 0) w') := Lib.hid (fun W p k0 k1 h => by
    have key := pick_any h (ok _ _ (by decide) (by decide) (by decide)) (x := 7516192768) (i64 _ (by decide) (by decide))
    rw [two_picked, two_held1 (i64 _ (by decide) (by decide)) (i64 _ (by omega) (by omega)), if_pos (by decide)] at key
    exact key)
  clear ha hb hr hg a0 a1 b0 b1 g0 g1 hs1 hy0 hz0 hz1 hy1 o0 o1 ok i64
  go_enter Try.func6, Try.ntmps6
  go_wp2_with (first
    | (go_at_call 13; (with_reducible refine (HH.out _).mono ?_); rintro e w0 ⟨rfl, hb⟩; have B0 := Lib.hid hb; clear hb)
    | (go_at_call 14; (with_reducible refine (HN.out _).mono ?_); rintro e w1 ⟨p, k0, k1, rfl, l0, l1, l2, h1, b1⟩; have H1 := Lib.hid h1; have B1 := Lib.hid (bTr B0.out b1); have HL := Lib.hid (show ∀ k, k ∈ [p, k0, k1] → w.heap.size ≤ k from by have := B0.out.size; simp; omega); clear h1 b1 l0 l1 l2)
    | (go_at_call 32; (with_reducible refine (HT0.out _ _ _ _ H1.out).mono ?_); rintro e w2 ⟨rfl, h1, b1⟩; have H2 := Lib.hid h1; have B2 := Lib.hid (b1.into B1.out HL.out); clear h1 b1)
    | (go_at_call 32; (with_reducible refine (HT1.out _ _ _ _ H2.out).mono ?_); rintro e w3 ⟨rfl, h1, b1⟩; have H3 := Lib.hid h1; have B3 := Lib.hid (b1.into B2.out HL.out); clear h1 b1)
    | (go_at_call 16; (with_reducible refine (HA0.out _ _ _ _ H3.out).mono ?_); rintro e w4 ⟨rfl, h1, b1⟩; have H4 := Lib.hid h1; have B4 := Lib.hid (b1.into B3.out HL.out); clear h1 b1)
    | (go_at_call 16; (with_reducible refine (HA1.out _ _ _ _ H4.out).mono ?_); rintro e w5 ⟨rfl, h1, b1⟩; have H5 := Lib.hid h1; have B5 := Lib.hid (b1.into B4.out HL.out); clear h1 b1)
    | (go_at_call 32; (with_reducible refine (HT2.out _ _ _ _ H5.out).mono ?_); rintro e w6 ⟨rfl, h1, b1⟩; have H6 := Lib.hid h1; have B6 := Lib.hid (b1.into B5.out HL.out); clear h1 b1)
    | (go_at_call 16; (with_reducible refine (HA2.out _ _ _ _ H6.out).mono ?_); rintro e w7 ⟨rfl, h1, b1⟩; have H7 := Lib.hid h1; have B7 := Lib.hid (b1.into B6.out HL.out); clear h1 b1)
    | (go_at_call 18; (with_reducible refine (HP2.out _ _ _ _ H7.out).mono ?_); rintro e w8 ⟨rfl, h1, b1⟩; have H8 := Lib.hid h1; have B8 := Lib.hid (b1.into B7.out HL.out); clear h1 b1))
  go_ret
  exact ⟨rfl, B8.out⟩

theorem pairSwitch_holds : Rows.PairSwitchSaid := pairSwitch_of (fun x0 x1 x2 w _ _ _ => switch_any x0 x1 x2 w)

end Go.Proofs.Ytfeoppbincldfaa
