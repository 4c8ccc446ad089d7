/- For every number, length and row of ways SeqrOnce answers true: each number that came is taken once. No condition. -/
import Derived.Test.YtkapklgimcmhdaaFSeqrOnce
import Derived.Test.YtkapklgimcmhdaaSqOnc2
namespace Go.Proofs.Ytkapklgimcmhdaa
open Go.RowKit Go.Joins

theorem once_many (x0 x1 : Int) (p : Option Addr) (n c : Nat) (w : World) (h : 100 < n) :
    Calls Try.prog 4 #[.int .i64 x0, .int .i64 x1, .slice p n c] w fun e w' => e = .returned (.bool true) ∧ Below w.heap.size w w' := by
  have HH := Lib.hid head_ret
  have d : decide ((100 : Int) < (n : Int)) = true := decide_eq_true (by omega)
  clear h
  go_enter Try.func4, Try.ntmps4
  go_wp2_with (go_at_call 13; (with_reducible refine (HH.out _).mono ?_); rintro e w1 ⟨rfl, hb⟩; have HB := Lib.hid (bTr (bAl (bRef w) _) hb); clear hb)
  go_ret
  exact ⟨rfl, HB.out⟩
def ORel (w : World) (z : OB) (F : Int) (n : Nat) (kv : Value) (wr : World) : Prop :=
  ∃ (k : Nat) (m : SQ) (T : List (Int × Int)) (C : List (Int × Bool)), kv = .int .i64 (k : Int) ∧ k ≤ n ∧ OW w.heap.size wr z F m (4 * k) T C ∧ Mid m F C T (k : Int) ((k : Int) - 1) ∧ Below w.heap.size w wr
theorem ORel.next {w wr : World} {z : OB} {F : Int} {n k n' : Nat} {kv : Value} {m : SQ} {T : List (Int × Int)} {C : List (Int × Bool)} (hv : kv = .int .i64 ((k + 1 : Nat) : Int)) (hk : k < n) (ho : OW w.heap.size wr z F m n' T C) (hn : n' ≤ 4 * (k + 1)) (hm : Mid m F C T ((k : Int) + 1) (k : Int)) (hb : Below w.heap.size w wr) : ORel w z F n kv wr :=
  ⟨k + 1, m, T, C, hv, hk, ho.mono hn, by rw [show ((k + 1 : Nat) : Int) - 1 = (k : Int) by omega, show ((k + 1 : Nat) : Int) = (k : Int) + 1 by omega]; exact hm, hb⟩
theorem in64_near {x : Int} {k : Nat} (h : x ≤ k ∧ (k : Int) ≤ x + 7) (hk : k ≤ 100) : Joins.In64 x := by unfold Joins.In64; omega
def NRel (r N : Nat) (z : OB) (C : List (Int × Bool)) (W : World) (wx : World) : Prop :=
  ∃ (left : Lit → Bool) (cnt : Nat), RngL MC wx z.cm r N C left cnt ∧ (∀ l, left l = true → ∃ e ∈ C, l = MC.kl e.1) ∧ Below W.heap.size W wx
set_option maxRecDepth 20000 in
set_option maxHeartbeats 4000000 in
theorem once_ok (x0 x1 : Int) (p : Option Addr) (n c : Nat) (w : World) (hn : n ≤ 100) (ha : SlArg 1 Okint w (.slice p n c) n) :
    Calls Try.prog 4 #[.int .i64 x0, .int .i64 x1, .slice p n c] w fun e w' => e = .returned (.bool true) ∧ Below w.heap.size w w' := by
  have HH := Lib.hid head_ret
  have d : decide ((100 : Int) < (n : Int)) = false := decide_eq_false (by omega)
  have eL := low5 x1
  have eF := low16 x0
  obtain ⟨L, hL⟩ : ∃ L, x1 % 32 = L := ⟨_, rfl⟩
  obtain ⟨F, hF⟩ : ∃ F, x0 % 65536 = F := ⟨_, rfl⟩
  have hL0 : 0 ≤ L ∧ L < 32 := by omega
  have hF0 : 0 ≤ F ∧ F < 65536 := by omega
  rw [hL] at eL
  rw [hF] at eF
  have eW : wrap64 (16 + L) = 16 + L := by unfold wrap64; omega
  have HC : okQ 0 (16 + L) 1099511627776 := ⟨.inl rfl, by omega, by omega, by omega, by omega⟩
  have HN := Lib.hid (fun W => qnew_ok 0 (16 + L) 1099511627776 0 W HC)
  have G0 := Lib.hid (Q0_good (now := 0) HC (by decide) (by decide))
  have HF := Lib.hid hF0
  have HL := Lib.hid hL0
  have HA := Lib.hid ha
  have Hn := Lib.hid hn
  clear ha hn HC hL hF hL0 hF0
  have hfb := heap_alloc_one' w (.cells #[.int .i64 x0] 3)
  have HFB := Lib.hid hfb
  have hmm := @run_makeMap Try.prog
  clear hfb
  go_enter Try.func4, Try.ntmps4
  go_wp2_with (first
    | (go_at_call 13; (with_reducible refine (HH.out _).mono ?_); rintro e w1 ⟨rfl, hb⟩; have HB := Lib.hid (bTr (bAl (bRef w) _) hb); have K1 := Lib.hid ((hb.block w.heap.size (lt_of_heap HFB.out)).trans HFB.out); have c0 : w1.cell? ⟨w.heap.size, 0, none⟩ = some (.int .i64 x0) := cell_of_row w1 w.heap.size 0 _ _ _ K1.out; have f0 : w1.frozen? ⟨w.heap.size, 0, none⟩ = false := frozen_of_row _ _ _ _ _ K1.out; have KF := Lib.hid (heap_setCell_same w1 w.heap.size 0 _ _ (.int .i64 F) K1.out); have KB := Lib.hid (bSet HB.out ⟨w.heap.size, 0, none⟩ (Nat.le_refl _) (.int .i64 F)); clear hb)
    | (go_at_call 14; (with_reducible refine (HN.out _).mono ?_); rintro e w3 ⟨b, rfl, hm, hb0, hb⟩; have HF3 := Lib.hid ((hb.block w.heap.size (lt_of_heap KF.out)).trans KF.out); have HB4 := Lib.hid (bTr KB.out hb); have HM3 := Lib.hid hm; have HBB := Lib.hid (Nat.le_trans KB.out.size hb0); have HS3 := Lib.hid HB4.out.size; clear hm hb0 hb))
  have HOs : Hid (OW w.heap.size _ _ F _ 0 [] []) := Lib.hid (OW.start (t1 := 26) (t2 := 47) (t3 := 48) HF3.out HM3.out HBB.out HS3.out)
  have HBs : Hid (Below w.heap.size w _) := Lib.hid (bAl (bAl (bAl (bAl (bAl HB4.out (.cells #[.pointer (some ⟨b, 0, none⟩)] 26)) (.map #[] 0)) (.cells #[.map (some (w3.heap.size + 1))] 47)) (.map #[] 0)) (.cells #[.map (some (w3.heap.size + 1 + 1 + 1))] 48))
  go_loopw [39] (fun kv wr => ORel w ⟨w.heap.size, w3.heap.size, b, w3.heap.size + 1 + 1, w3.heap.size + 1 + 1 + 1 + 1, w3.heap.size + 1, w3.heap.size + 1 + 1 + 1⟩ F n kv wr) (fun kv _ => n - (intOf kv).toNat)
  case atStart => exact ⟨0, _, _, _, rfl, by omega, HOs.out, ⟨⟨G0.out, rfl, by show 16 ≤ 16 + L; have := HL.out; omega, rfl, by show (0 : Int) ≤ 0; omega, by show (0 : Int) ≤ 1000; omega, fun _ => .inl ⟨rfl, rfl⟩⟩, .inl ⟨rfl, fun _ => rfl, by omega⟩⟩, HBs.out⟩
  case round =>
    clear HF3 HB4 HM3 HS3 KF KB K1 HB HN G0 HFB c0 f0 HOs HBs
    obtain ⟨k, m, T, C, rfl, hk, ho, hm, hb⟩ := hrel
    obtain ⟨z, hz⟩ : ∃ z : OB, ⟨w.heap.size, w3.heap.size, b, w3.heap.size + 1 + 1, w3.heap.size + 1 + 1 + 1 + 1, w3.heap.size + 1, w3.heap.size + 1 + 1 + 1⟩ = z := ⟨_, rfl⟩
    rw [hz] at ho
    have HO := Lib.hid ho
    have HM := Lib.hid hm
    have HB := Lib.hid hb
    have hn100 := Hn.out
    obtain ⟨d1, d2, d3, d4⟩ := ho.cells
    have zs : z.s = w3.heap.size := by rw [← hz]
    have zf : z.f = w.heap.size := by rw [← hz]
    have zt : z.t = w3.heap.size + 1 + 1 := by rw [← hz]
    have zc : z.c = w3.heap.size + 1 + 1 + 1 + 1 := by rw [← hz]
    have HZ := Lib.hid hz
    have HZC := Lib.hid zc
    have HZT := Lib.hid zt
    have HZM : Hid (z.cm = w3.heap.size + 1 + 1 + 1) := Lib.hid (by rw [← hz])
    have HZTM : Hid (z.tm = w3.heap.size + 1) := Lib.hid (by rw [← hz])
    rw [zc, HZM.out] at d4
    rw [zt, HZTM.out] at d3
    clear ho hm hb d1 d2 hz zs zf zt zc
    rcases Nat.lt_or_ge k n with g1 | g1
    · have hd : decide ((k : Int) < (n : Int)) = true := decide_eq_true (by omega)
      obtain ⟨ab, o, G, rfl, hab, hG⟩ := SlArg.at HA.out (by omega)
      obtain ⟨⟨z0, hz0, b0⟩, hlen, hc⟩ := hG k g1
      rw [hz0] at hc
      have c0 := (HB.out.cell (p := ⟨ab, o + k * 1 + 0, none⟩) hab).trans (hc 0 (by omega))
      rw [Nat.add_zero, Nat.mul_one] at c0
      simp only [List.getElem?_cons_zero] at c0
      clear hG hc hlen hz0 G hab
      have e1 := low1 z0
      have e2 := low3 (z0 / 2)
      have e3 := low2 (z0 / 16)
      obtain ⟨P, hP⟩ : ∃ P, z0 % 2 = P := ⟨_, rfl⟩
      obtain ⟨r, hr⟩ : ∃ r, z0 / 2 % 8 = r := ⟨_, rfl⟩
      obtain ⟨q, hq⟩ : ∃ q, z0 / 16 % 4 = q := ⟨_, rfl⟩
      have hP0 : P = 0 ∨ P = 1 := by omega
      have hr0 : 0 ≤ r ∧ r ≤ 7 := by omega
      rw [hP] at e1
      rw [hr] at e2
      rw [hq] at e3
      have e4 : wrap64 ((k : Int) - r) = (k : Int) - r := by unfold wrap64; omega
      obtain ⟨x, hx⟩ : ∃ x, (k : Int) - r = x := ⟨_, rfl⟩
      rw [hx] at e4
      have hxk : x ≤ k ∧ (k : Int) ≤ x + 7 := by omega
      have HXK := Lib.hid hxk
      have Hk := Lib.hid g1
      have hxi : Joins.In64 x := in64_near hxk (Nat.le_trans (Nat.le_of_lt g1) hn100)
      have HX := Lib.hid hxi
      clear hxi
      have HXE := Lib.hid hx
      clear hP hr hq hr0 hxk
      have hx64 := HX.out
      have hxk := HXK.out
      have hF := HF.out
      rcases hP0 with rfl | rfl
      · obtain ⟨m1, T1, hM1, hG1⟩ := give_any (B := w.heap.size) (z := z) HM.out (k : Int) hF.1 hF.2 (by omega) (Int.le_refl _) (by omega) (by have := Hk.out; omega) (by omega)
        have HM1 := Lib.hid (hM1.weak (k' := (k : Int)) (hi' := (k : Int)) (by omega) (Int.le_refl _))
        have HG1 : Hid (∀ W n, n ≤ 1000 → OW w.heap.size W z F m n T C → Calls Try.prog 25 #[.int .i64 (k : Int), .pointer (some ⟨w3.heap.size, 0, none⟩), .pointer (some ⟨w.heap.size, 0, none⟩), .pointer (some ⟨w3.heap.size + 1 + 1 + 1 + 1, 0, none⟩), .pointer (some ⟨w3.heap.size + 1 + 1, 0, none⟩)] W fun e W' => e = .returned (.bool true) ∧ OW w.heap.size W' z F m1 (n + 2) T1 (putL C (k : Int) true) ∧ Below w.heap.size W W') := Lib.hid (by rw [← HZ.out] at hG1 ⊢; exact hG1)
        clear hM1 hG1
        by_cases hx0 : 0 ≤ x
        · have t1 : decide (0 ≤ x) = true := decide_eq_true hx0
          by_cases hq0 : q = 0
          · subst hq0
            rcases hlx : lookL (putL C (k : Int) true) x with _ | v
            · obtain ⟨m2, T2, hM2, hG2⟩ := give_any (B := w.heap.size) (z := z) HM1.out x hF.1 hF.2 hx0 hxk.1 hxk.2 (by have := Hk.out; omega) (Int.le_refl _)
              have HM2 := Lib.hid hM2
              have HG2 : Hid (∀ W n, n ≤ 1000 → OW w.heap.size W z F m1 n T1 (putL C (k : Int) true) → Calls Try.prog 25 #[.int .i64 x, .pointer (some ⟨w3.heap.size, 0, none⟩), .pointer (some ⟨w.heap.size, 0, none⟩), .pointer (some ⟨w3.heap.size + 1 + 1 + 1 + 1, 0, none⟩), .pointer (some ⟨w3.heap.size + 1 + 1, 0, none⟩)] W fun e W' => e = .returned (.bool true) ∧ OW w.heap.size W' z F m2 (n + 2) T2 (putL (putL C (k : Int) true) x true) ∧ Below w.heap.size W W') := Lib.hid (by rw [← HZ.out] at hG2 ⊢; exact hG2)
              clear hM2 hG2 hxk hF hx64 hx0
              have HLX : Hid ((lookL (putL C (k : Int) true) x).getD false = false) := Lib.hid (by rw [hlx]; rfl)
              clear hlx
              go_wp2_with (first
                | ((with_reducible refine (HG1.out _ _ (by have := Hk.out; have := Hn.out; omega) HO.out).mono ?_); rintro e w4 ⟨rfl, ho, hb⟩; have HO4 := Lib.hid ho; have HB4 := Lib.hid (HB.out.trans hb); have d5 := ho.cells.2.2.2; rw [HZC.out, HZM.out] at d5; have hl : (Instr.lookup 48 (.map (some (w3.heap.size + 1 + 1 + 1))) (.int .i64 x) false).run Try.prog w4 = .ok (.bool false) w4 := (by have k9 := ho.came x HX.out; rw [HLX.out, HZM.out] at k9; exact k9); clear ho hb)
                | ((with_reducible refine (HG2.out _ _ (by have := Hk.out; have := Hn.out; omega) HO4.out).mono ?_); rintro e w5 ⟨rfl, ho, hb⟩; have HO5 := Lib.hid ho; have HB5 := Lib.hid (HB4.out.trans hb); clear ho hb))
              go_roundw
              case rel => exact ORel.next (by go_num) Hk.out (by rw [HZ.out]; exact HO5.out) (by omega) HM2.out HB5.out
              case measure => simp [intOf]; omega
            · have HME := Lib.hid (Mid.come HM1.out hxk.2 (by rw [hlx]; simp))
              have HLX : Hid ((lookL (putL C (k : Int) true) x).getD false = true) := Lib.hid (by rcases HM1.out.1.ct x with h1 | h1 <;> rw [hlx] at h1 <;> simp_all)
              clear hlx hxk hF hx64 hx0
              go_wp2_with ((with_reducible refine (HG1.out _ _ (by have := Hk.out; have := Hn.out; omega) HO.out).mono ?_); rintro e w4 ⟨rfl, ho, hb⟩; have HO4 := Lib.hid ho; have HB4 := Lib.hid (HB.out.trans hb); have d5 := ho.cells.2.2.2; rw [HZC.out, HZM.out] at d5; have hl : (Instr.lookup 48 (.map (some (w3.heap.size + 1 + 1 + 1))) (.int .i64 x) false).run Try.prog w4 = .ok (.bool true) w4 := (by have k9 := ho.came x HX.out; rw [HLX.out, HZM.out] at k9; exact k9); clear ho hb)
              go_roundw
              case rel => exact ORel.next (by go_num) Hk.out (by rw [HZ.out]; exact HO4.out) (by omega) HME.out HB4.out
              case measure => simp [intOf]; omega
          · have t2 : (q == 0) = false := by simpa using hq0
            have t3 : (q != 0) = true := by simpa using hq0
            obtain ⟨m2, T2, hM2, hG2⟩ := give_any (B := w.heap.size) (z := z) HM1.out x hF.1 hF.2 hx0 hxk.1 hxk.2 (by have := Hk.out; omega) (Int.le_refl _)
            have HM2 := Lib.hid hM2
            have HG2 : Hid (∀ W n, n ≤ 1000 → OW w.heap.size W z F m1 n T1 (putL C (k : Int) true) → Calls Try.prog 25 #[.int .i64 x, .pointer (some ⟨w3.heap.size, 0, none⟩), .pointer (some ⟨w.heap.size, 0, none⟩), .pointer (some ⟨w3.heap.size + 1 + 1 + 1 + 1, 0, none⟩), .pointer (some ⟨w3.heap.size + 1 + 1, 0, none⟩)] W fun e W' => e = .returned (.bool true) ∧ OW w.heap.size W' z F m2 (n + 2) T2 (putL (putL C (k : Int) true) x true) ∧ Below w.heap.size W W') := Lib.hid (by rw [← HZ.out] at hG2 ⊢; exact hG2)
            clear hM2 hG2 hxk hF hx64 hx0
            go_wp2_with (first
              | ((with_reducible refine (HG1.out _ _ (by have := Hk.out; have := Hn.out; omega) HO.out).mono ?_); rintro e w4 ⟨rfl, ho, hb⟩; have HO4 := Lib.hid ho; have HB4 := Lib.hid (HB.out.trans hb); have d5 := ho.cells.2.2.2; rw [HZC.out, HZM.out] at d5; clear ho hb)
              | ((with_reducible refine (HG2.out _ _ (by have := Hk.out; have := Hn.out; omega) HO4.out).mono ?_); rintro e w5 ⟨rfl, ho, hb⟩; have HO5 := Lib.hid ho; have HB5 := Lib.hid (HB4.out.trans hb); clear ho hb))
            go_roundw
            case rel => exact ORel.next (by go_num) Hk.out (by rw [HZ.out]; exact HO5.out) (by omega) HM2.out HB5.out
            case measure => simp [intOf]; omega
        · have t1 : decide (0 ≤ x) = false := decide_eq_false hx0
          have HME := Lib.hid (Mid.idle HM1.out (by omega))
          clear hxk hF hx64 hx0
          go_wp2_with ((with_reducible refine (HG1.out _ _ (by have := Hk.out; have := Hn.out; omega) HO.out).mono ?_); rintro e w4 ⟨rfl, ho, hb⟩; have HO4 := Lib.hid ho; have HB4 := Lib.hid (HB.out.trans hb); have d5 := ho.cells.2.2.2; rw [HZC.out, HZM.out] at d5; clear ho hb)
          go_roundw
          case rel => exact ORel.next (by go_num) Hk.out (by rw [HZ.out]; exact HO4.out) (by omega) HME.out HB4.out
          case measure => simp [intOf]; omega
      · have HM1 := Lib.hid (HM.out.weak (k' := (k : Int)) (hi' := (k : Int)) (Int.le_refl _) (by omega))
        by_cases hx0 : 0 ≤ x
        · have t1 : decide (0 ≤ x) = true := decide_eq_true hx0
          by_cases hq0 : q = 0
          · subst hq0
            rcases hlx : lookL C x with _ | v
            · obtain ⟨m2, T2, hM2, hG2⟩ := give_any (B := w.heap.size) (z := z) HM1.out x hF.1 hF.2 hx0 hxk.1 hxk.2 (by have := Hk.out; omega) (Int.le_refl _)
              have HM2 := Lib.hid hM2
              have HG2 : Hid (∀ W n, n ≤ 1000 → OW w.heap.size W z F m n T C → Calls Try.prog 25 #[.int .i64 x, .pointer (some ⟨w3.heap.size, 0, none⟩), .pointer (some ⟨w.heap.size, 0, none⟩), .pointer (some ⟨w3.heap.size + 1 + 1 + 1 + 1, 0, none⟩), .pointer (some ⟨w3.heap.size + 1 + 1, 0, none⟩)] W fun e W' => e = .returned (.bool true) ∧ OW w.heap.size W' z F m2 (n + 2) T2 (putL C x true) ∧ Below w.heap.size W W') := Lib.hid (by rw [← HZ.out] at hG2 ⊢; exact hG2)
              clear hM2 hG2 hxk hF hx64 hx0
              have HLX : Hid ((lookL C x).getD false = false) := Lib.hid (by rw [hlx]; rfl)
              clear hlx
              have hl : (Instr.lookup 48 (.map (some (w3.heap.size + 1 + 1 + 1))) (.int .i64 x) false).run Try.prog wr = .ok (.bool false) wr := (by have k9 := HO.out.came x HX.out; rw [HLX.out, HZM.out] at k9; exact k9)
              go_wp2_with ((with_reducible refine (HG2.out _ _ (by have := Hk.out; have := Hn.out; omega) HO.out).mono ?_); rintro e w5 ⟨rfl, ho, hb⟩; have HO5 := Lib.hid ho; have HB5 := Lib.hid (HB.out.trans hb); clear ho hb)
              go_roundw
              case rel => exact ORel.next (by go_num) Hk.out (by rw [HZ.out]; exact HO5.out) (by omega) HM2.out HB5.out
              case measure => simp [intOf]; omega
            · have HME := Lib.hid (Mid.come HM1.out hxk.2 (by rw [hlx]; simp))
              have HLX : Hid ((lookL C x).getD false = true) := Lib.hid (by rcases HM1.out.1.ct x with h1 | h1 <;> rw [hlx] at h1 <;> simp_all)
              clear hlx hxk hF hx64 hx0
              have hl : (Instr.lookup 48 (.map (some (w3.heap.size + 1 + 1 + 1))) (.int .i64 x) false).run Try.prog wr = .ok (.bool true) wr := (by have k9 := HO.out.came x HX.out; rw [HLX.out, HZM.out] at k9; exact k9)
              go_wp2_with fail
              go_roundw
              case rel => exact ORel.next (by go_num) Hk.out (by rw [HZ.out]; exact HO.out) (by omega) HME.out HB.out
              case measure => simp [intOf]; omega
          · have t2 : (q == 0) = false := by simpa using hq0
            have t3 : (q != 0) = true := by simpa using hq0
            obtain ⟨m2, T2, hM2, hG2⟩ := give_any (B := w.heap.size) (z := z) HM1.out x hF.1 hF.2 hx0 hxk.1 hxk.2 (by have := Hk.out; omega) (Int.le_refl _)
            have HM2 := Lib.hid hM2
            have HG2 : Hid (∀ W n, n ≤ 1000 → OW w.heap.size W z F m n T C → Calls Try.prog 25 #[.int .i64 x, .pointer (some ⟨w3.heap.size, 0, none⟩), .pointer (some ⟨w.heap.size, 0, none⟩), .pointer (some ⟨w3.heap.size + 1 + 1 + 1 + 1, 0, none⟩), .pointer (some ⟨w3.heap.size + 1 + 1, 0, none⟩)] W fun e W' => e = .returned (.bool true) ∧ OW w.heap.size W' z F m2 (n + 2) T2 (putL C x true) ∧ Below w.heap.size W W') := Lib.hid (by rw [← HZ.out] at hG2 ⊢; exact hG2)
            clear hM2 hG2 hxk hF hx64 hx0
            go_wp2_with ((with_reducible refine (HG2.out _ _ (by have := Hk.out; have := Hn.out; omega) HO.out).mono ?_); rintro e w5 ⟨rfl, ho, hb⟩; have HO5 := Lib.hid ho; have HB5 := Lib.hid (HB.out.trans hb); clear ho hb)
            go_roundw
            case rel => exact ORel.next (by go_num) Hk.out (by rw [HZ.out]; exact HO5.out) (by omega) HM2.out HB5.out
            case measure => simp [intOf]; omega
        · have t1 : decide (0 ≤ x) = false := decide_eq_false hx0
          have HME := Lib.hid (Mid.idle HM1.out (by omega))
          clear hxk hF hx64 hx0
          go_wp2_with fail
          go_roundw
          case rel => exact ORel.next (by go_num) Hk.out (by rw [HZ.out]; exact HO.out) (by omega) HME.out HB.out
          case measure => simp [intOf]; omega
    · obtain rfl : k = n := by omega
      have hd : decide ((k : Int) < (k : Int)) = false := decide_eq_false (by omega)
      obtain ⟨wo, hwo⟩ : ∃ wo, wo = wr := ⟨_, rfl⟩
      subst hwo
      obtain ⟨wg, hrun, left, cnt, hrg, hleft, hgr, hsz⟩ := HO.out.mc.range
      have hrun2 : (Instr.range 48 (.map (some (w3.heap.size + 1 + 1 + 1)))).run Try.prog wo = .ok (.pointer (some ⟨wo.heap.size, 0, none⟩)) wg := by rw [← HZM.out]; exact hrun
      have hB1 : Below wo.heap.size wo wg := ⟨hgr.os, hgr.tape, hgr.output, hgr.size, fun k hk => hgr.block k hk (by simp)⟩
      have HR := Lib.hid hrg
      have HLf := Lib.hid hleft
      have HB1 := Lib.hid hB1
      clear hrun hrg hleft hgr hsz hB1
      go_wp2_with fail
      go_loopw [] (fun wx => NRel wo.heap.size (4 * k) z C wo wx) (fun wx => wx.rangeLeft z.cm wo.heap.size)
      case atStart => exact ⟨left, cnt, HR.out, fun l hl => (HLf.out l).1 hl, HB1.out⟩
      case round =>
        clear HR HLf HB1 hrun2
        obtain ⟨lf, cn, hr, hsub, hb⟩ := hrel
        rcases hr.next hsub 0 with ⟨hno, hrun⟩ | ⟨e, he, hlk, w2, cn2, hrun, hr2, hlt2, hg2, hs2, hen⟩
        · have HBe := Lib.hid (HB.out.trans (hb.mono HB.out.size))
          clear hr hsub hb hno
          go_wp2_with fail
          go_ret
          exact ⟨rfl, HBe.out⟩
        · have hb2 : Below wo.heap.size wo w2 := ⟨hg2.os.trans hb.os, hg2.tape.trans hb.tape, hg2.output.trans hb.output, Nat.le_trans hb.size hg2.size, fun i hi => (hg2.block i (Nat.lt_of_lt_of_le hi hb.size) (by simp; omega)).trans (hb.block i hi)⟩
          have hO2 := HO.out.below hb2
          have hge := HO.out.mc.good e he
          have hC := lookL_of_mem HO.out.mc.nodup he
          have hT : lookL T e.1 = some 1 := by
            rcases HM.out.1.ct e.1 with h1 | h1
            · rw [h1.1] at hC; cases hC
            · exact h1.2
          have hl := hO2.taken e.1 hge
          rw [hT, HZTM.out] at hl
          have d5 := hO2.cells.2.2.1
          rw [HZT.out, HZTM.out] at d5
          have HR2 := Lib.hid hr2
          have HS := Lib.hid hsub
          have HB2 := Lib.hid hb2
          have HLT := Lib.hid (show w2.rangeLeft z.cm wo.heap.size < wr.rangeLeft z.cm wo.heap.size by rw [hr2.left_eq, hr.left_eq]; exact hlt2)
          obtain ⟨x, v⟩ := e
          have hrun1 : (Instr.next (.pointer (some ⟨wo.heap.size, 0, none⟩)) false 0).run Try.prog wr = .ok (.tuple #[.bool true, .int .i64 x, .bool v]) w2 := hrun
          have hen1 : (Instr.entry (.pointer (some ⟨wo.heap.size, 0, none⟩))).run Try.prog w2 = .ok (.tuple #[.int .i64 x, .bool v]) w2 := hen
          have hl1 : (Instr.lookup 47 (.map (some (w3.heap.size + 1))) (.int .i64 x) false).run Try.prog w2 = .ok (.int .i64 1) w2 := hl
          clear hr hsub hb hrun hen hl hr2 hlt2 hg2 hs2 hlk he hb2 hO2 hge hC hT
          go_wp2_with fail
          go_roundw
          case rel => exact ⟨_, _, HR2.out, fun l hl => HS.out l (by simp only [Bool.and_eq_true] at hl; exact hl.1), HB2.out⟩
          case measure => exact HLT.out
theorem seqrOnce_holds : Rows.SeqrOnceSaid := seqrOnce_of fun x0 x1 v2 n2 w _ _ h2 => by
  obtain ⟨p, c, rfl⟩ := h2.slice
  by_cases hn : 100 < n2
  · exact once_many x0 x1 p n2 c w hn
  · exact once_ok x0 x1 p n2 c w (by omega) h2
end Go.Proofs.Ytkapklgimcmhdaa
