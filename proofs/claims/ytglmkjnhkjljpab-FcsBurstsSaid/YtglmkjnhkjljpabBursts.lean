/- FcsBursts: a run of at most 32 bits that was turned is told. -/
import Derived.Test.YtglmkjnhkjljpabFirst
namespace Go.Proofs.Ytglmkjnhkjljpab
open Go.RowKit Go.Joins

theorem bursts_long (p : Option Addr) (n c : Nat) (a B : Int) (hn : 2000 < n) (w : World) :
    Calls Try.prog 5 #[.slice p n c, .int .i64 a, .int .u32 B] w fun e w' => e = .returned (.bool true) ∧ Below w.heap.size w w' := by
  have HH := head_ret
  go_enter Try.func5, Try.ntmps5
  go_wp2_with (go_at_call 9; (with_reducible refine (HH.go _).mono ?_); rintro e w1 ⟨rfl, hb⟩)
  go_ret
  exact ⟨rfl, hb⟩

theorem bursts_out (p : Option Addr) (n c : Nat) (a B : Int) (xs : List Nat) (w : World) (h : BArg w (.slice p n c) xs) (hl : xs.length = n) (hn : n ≤ 2000) (ha : a < 0 ∨ 8 * ((n : Int) + 4) ≤ a) :
    Calls Try.prog 5 #[.slice p n c, .int .i64 a, .int .u32 B] w fun e w' => e = .returned (.bool true) ∧ Below w.heap.size w w' := by
  have HH := head_ret
  have H := Lib.hid h
  have L1 := Lib.hid (show xs.length ≤ 140737488355000 by omega)
  have HN := Lib.hid hl
  clear h hl
  rcases ha with ha | ha
  · go_enter Try.func5, Try.ntmps5
    go_wp2_with (first
      | (go_at_call 9; (with_reducible refine (HH.go _).mono ?_); rintro e w1 ⟨rfl, hb⟩; have HB := Lib.hid hb; have HA := Lib.hid (H.out.below hb); clear hb)
      | (go_at_call 14; (with_reducible refine (close_at HA.out L1.out HN.out).mono ?_); rintro e w2 ⟨g2, c2, rfl, hc2, hown⟩; replace HB := Lib.hid (bTr HB.out hown.bel); clear hown))
    go_ret
    exact ⟨rfl, HB.out⟩
  · have ha0 : ¬ a < 0 := by omega
    go_enter Try.func5, Try.ntmps5
    go_wp2_with (first
      | (go_at_call 9; (with_reducible refine (HH.go _).mono ?_); rintro e w1 ⟨rfl, hb⟩; have HB := Lib.hid hb; have HA := Lib.hid (H.out.below hb); clear hb)
      | (go_at_call 14; (with_reducible refine (close_at HA.out L1.out HN.out).mono ?_); rintro e w2 ⟨g2, c2, rfl, hc2, hown⟩; replace HB := Lib.hid (bTr HB.out hown.bel); clear hown))
    go_ret
    exact ⟨rfl, HB.out⟩

theorem mod_pow_succ (B i : Nat) : B % 2 ^ (i + 1) = 2 ^ i * (B / 2 ^ i % 2) + B % 2 ^ i := by
  rw [Nat.pow_succ, Nat.mod_mul]; omega
theorem bit_set {B i : Nat} (h : B / 2 ^ i % 2 = 1) : B % 2 ^ (i + 1) = (B % 2 ^ i) ^^^ 2 ^ i := by
  rw [mod_pow_succ, h, Nat.mul_one]
  have hlt := Nat.mod_lt B (Nat.two_pow_pos i)
  have e := Nat.two_pow_add_eq_or_of_lt hlt 1
  rw [Nat.mul_one] at e
  rw [e]
  apply Nat.eq_of_testBit_eq; intro k
  rw [Nat.testBit_or, Nat.testBit_xor, Nat.testBit_two_pow]
  by_cases hk : i = k
  · subst hk
    rw [Nat.testBit_lt_two_pow hlt]; simp
  · simp [hk]
theorem bit_unset {B i : Nat} (h : B / 2 ^ i % 2 = 0) : B % 2 ^ (i + 1) = B % 2 ^ i := by
  rw [mod_pow_succ, h]; omega

/-- Of the first i bits those that are set have been turned. -/
def BurstRel (w3 : World) (cs : List Nat) (a B n : Nat) (v iv : Value) (wr : World) : Prop :=
  ∃ (i : Nat) (os : List Nat), i ≤ 32 ∧ a + i ≤ 8 * n ∧ iv = .int .i64 (i : Int) ∧ os.length = n ∧ Crc.V os = Crc.V cs ^^^ 2 ^ a * (B % 2 ^ i) ∧ OwnB w3 wr v os
theorem burst_yes {cs os : List Nat} {a B i : Nat} (hv : Crc.V os = Crc.V cs ^^^ 2 ^ a * (B % 2 ^ i)) (hq : a + i < 8 * os.length) (h : B / 2 ^ i % 2 = 1) : Crc.V (Crc.flip os (a + i)) = Crc.V cs ^^^ 2 ^ a * (B % 2 ^ (i + 1)) := by
  rw [Crc.V_flip hq, hv, bit_set h, Crc.pow_mul_xor, ← Nat.pow_add, Nat.xor_assoc]

/-- It is opened just if nothing was turned. -/
theorem burst_end {xs os : List Nat} {a B i : Nat} (hx : Crc.Bytes xs) (ho : Crc.Bytes os) (hl : os.length = xs.length + 4) (hi : i ≤ 32) (hv : Crc.V os = Crc.V (Crc.close xs) ^^^ 2 ^ a * (B % 2 ^ i)) :
    Crc.opens os = decide (Crc.close xs = os) := by
  have hc := Crc.close_len xs
  by_cases e : Crc.close xs = os
  · rw [decide_eq_true e, ← e, Crc.opens_close xs hx]
  · rw [decide_eq_false e, opens_long (by omega), beq_eq_false_iff_ne]
    intro hw
    rw [Crc.wrong_turn (l := Crc.close xs) (by omega) (by omega) hv, Crc.wrong_close xs hx, Nat.zero_xor] at hw
    have hB : B % 2 ^ i < 4294967296 := Nat.lt_of_lt_of_le (Nat.mod_lt _ (Nat.two_pow_pos i)) (Nat.pow_le_pow_right (n := 2) (by decide) hi)
    have h0 := Crc.T_burst hB hw
    rw [h0, Nat.mul_zero, Nat.xor_zero] at hv
    exact e (Crc.V_inj _ _ (by omega) (Crc.close_bytes xs hx) ho hv.symm)
theorem open_flag {v : Value} {xs : List Nat} {w : World} (h : BArg w v xs) (hl : xs.length ≤ 140737488355000) (x : Bool) (hx : Crc.opens xs = x) :
    Calls Try.prog 16 #[v] w fun e w' => ∃ u, e = .returned (.tuple #[u, .bool x]) ∧ Below w.heap.size w w' := by
  refine (open_any h hl).mono fun e w' hh => ?_
  rw [← hx]
  rcases hh with ⟨h1, u, e1, h2⟩ | ⟨h1, e1, h2⟩
  · exact ⟨u, by rw [h1]; exact e1, h2.bel⟩
  · exact ⟨_, by rw [h1]; exact e1, h2⟩

set_option maxHeartbeats 4000000 in
set_option maxRecDepth 20000 in
theorem bursts_main (p : Option Addr) (n c a B : Nat) (xs : List Nat) (w : World) (h : BArg w (.slice p n c) xs) (hl : xs.length = n) (hn : n ≤ 2000) (ha : a < 8 * (n + 4)) (hB : B < 4294967296) :
    Calls Try.prog 5 #[.slice p n c, .int .i64 (a : Int), .int .u32 (B : Int)] w fun e w' => e = .returned (.bool true) ∧ Below w.heap.size w w' := by
  have HH := head_ret
  have H := Lib.hid h
  have HX := Lib.hid h.1
  have L1 := Lib.hid (show xs.length ≤ 140737488355000 by omega)
  have L3 := Lib.hid (show (Crc.close xs).length ≤ 140737488355328 by rw [Crc.close_len]; omega)
  have L4 := Lib.hid (show (Crc.close xs).length = n + 4 by rw [Crc.close_len]; omega)
  have HN := Lib.hid hl
  clear h hl
  go_enter Try.func5, Try.ntmps5
  go_wp2_with (first
    | (go_at_call 9; (with_reducible refine (HH.go _).mono ?_); rintro e w1 ⟨rfl, hb⟩; have HB := Lib.hid hb; have HA := Lib.hid (H.out.below hb); clear hb)
    | (go_at_call 14; (with_reducible refine (close_at HA.out L1.out HN.out).mono ?_); rintro e w2 ⟨g2, c2, rfl, hc2, hown⟩; have HC := Lib.hid hown.arg; replace HB := Lib.hid (bTr HB.out hown.bel); clear hown)
    | (go_at_call 10; (with_reducible refine (copy_at HC.out L3.out L4.out).mono ?_); rintro e w4 ⟨g4, c4, rfl, hc4, hown⟩; have HO := Lib.hid hown; clear hown))
  go_loopw [9] (fun iv wr => BurstRel w2 (Crc.close xs) a B (n + 4) (.slice (some ⟨g4, 0, none⟩) (n + 4) c4) iv wr) (fun iv _ => 32 - (intOf iv).toNat)
  case atStart => exact ⟨0, Crc.close xs, by omega, by omega, rfl, L4.out, by rw [Nat.pow_zero, Nat.mod_one, Nat.mul_zero, Nat.xor_zero], HO.out⟩
  case round =>
    clear HO
    obtain ⟨i, os, hi, hai, rfl, hos, hv, hown⟩ := hrel
    have HO := Lib.hid hown
    have HOS := Lib.hid hos
    have HV := Lib.hid hv
    clear hown hos hv
    by_cases hgo : i < 32 ∧ a + i < 8 * (n + 4)
    · obtain ⟨g1, g3⟩ := hgo
      have hd1 : decide ((i : Int) < 32) = true := decide_eq_true (by omega)
      have hd2 : decide ((i : Int) < 8 * ((n : Int) + 4) - (a : Int)) = true := decide_eq_true (by omega)
      have hq8 : (a + i) / 8 < n + 4 := by omega
      have hdiv : B / 2 ^ i < 4294967296 := Nat.lt_of_le_of_lt (Nat.div_le_self _ _) hB
      have hand := u32_and1 (B / 2 ^ i)
      have hcast : ((B / 2 ^ i : Nat) : Int) = (B : Int) / 2 ^ i := by rw [Int.natCast_ediv, Int.natCast_pow]; rfl
      rw [hcast] at hand
      rcases Nat.mod_two_eq_zero_or_one (B / 2 ^ i) with hm | hm
      · have hbit : ((B : Int) / 2 ^ i % 2 == 1) = false := by rw [beq_eq_false_iff_ne, ← hcast]; omega
        have HM := Lib.hid hm
        clear hm hcast
        go_wp2_with fail
        go_roundw
        case rel => exact ⟨i + 1, os, by omega, by omega, by go_num, HOS.out, by rw [bit_unset HM.out]; exact HV.out, HO.out⟩
        case measure => simp [intOf]; omega
      · have hbit : ((B : Int) / 2 ^ i % 2 == 1) = true := by rw [beq_iff_eq, ← hcast]; omega
        have HM := Lib.hid hm
        clear hm hcast
        have hcell := HO.out.cell (k := (a + i) / 8) (by rw [HOS.out]; exact hq8)
        have hfr := HO.out.frozen ((a + i) / 8)
        have hx := Crc.getD_byte HO.out.2.2.1 ((a + i) / 8)
        obtain ⟨x, hxe⟩ : ∃ x, x = os.getD ((a + i) / 8) 0 := ⟨_, rfl⟩
        rw [← hxe] at hcell hx
        have Hxe := Lib.hid hxe
        have hxo := u8_flip x (a + i) hx
        have hlt := Crc.xor_lt8 x (2 ^ ((a + i) % 8)) hx (pow8_lt (a + i))
        obtain ⟨y, hy⟩ : ∃ y, y = x ^^^ 2 ^ ((a + i) % 8) := ⟨_, rfl⟩
        rw [← hy] at hxo hlt
        have Hy := Lib.hid hy
        clear hxe hy
        go_wp2_with fail
        go_roundw
        case rel => exact ⟨i + 1, Crc.flip os (a + i), by omega, by omega, by go_num, by rw [Crc.flip_len]; exact HOS.out, burst_yes HV.out (by rw [HOS.out]; omega) HM.out, own_eq (HO.out.set hlt) (flip_eq Hy.out Hxe.out)⟩
        case measure => simp [intOf]; omega
    · have HE := Lib.hid (burst_end HX.out HO.out.2.2.1 (by rw [HOS.out, HN.out]) hi HV.out)
      have L6 := Lib.hid (show os.length ≤ 140737488355000 by rw [HOS.out]; omega)
      obtain ⟨x, hx⟩ : ∃ x, Crc.opens os = x := ⟨_, rfl⟩
      have HXX := Lib.hid hx
      have HS : Hid (decide (Crc.close xs = os) = x) := Lib.hid (by rw [← HE.out]; exact hx)
      clear hx HV
      rcases Nat.lt_or_ge i 32 with g | g
      · have hd2 : decide ((i : Int) < 8 * ((n : Int) + 4) - (a : Int)) = false := decide_eq_false (by omega)
        clear hgo
        cases x
        all_goals
          go_wp2_with (first
            | (go_at_call 16; (with_reducible refine (open_flag HO.out.arg L6.out _ HXX.out).mono ?_); rintro e w5 ⟨u, rfl, hb⟩; have HB5 := Lib.hid (bTr HO.out.bel hb); have HD := Lib.hid (HO.out.arg.below hb); clear hb)
            | (go_at_call 13; (with_reducible refine (same_any (HC.out.below HB5.out) HD.out _ HS.out).mono ?_); rintro e w6 ⟨rfl, rfl⟩))
          go_ret
          exact ⟨rfl, bTr HB.out HB5.out⟩
      · obtain rfl : i = 32 := by omega
        clear hgo
        cases x
        all_goals
          go_wp2_with (first
            | (go_at_call 16; (with_reducible refine (open_flag HO.out.arg L6.out _ HXX.out).mono ?_); rintro e w5 ⟨u, rfl, hb⟩; have HB5 := Lib.hid (bTr HO.out.bel hb); have HD := Lib.hid (HO.out.arg.below hb); clear hb)
            | (go_at_call 13; (with_reducible refine (same_any (HC.out.below HB5.out) HD.out _ HS.out).mono ?_); rintro e w6 ⟨rfl, rfl⟩))
          go_ret
          exact ⟨rfl, bTr HB.out HB5.out⟩

theorem bursts_walk (v : Value) (xs : List Nat) (a B : Int) (w : World) (h : BArg w v xs) (_ : -9223372036854775808 ≤ a) (_ : a < 9223372036854775808) (h3 : 0 ≤ B) (h4 : B < 4294967296) :
    Calls Try.prog 5 #[v, .int .i64 a, .int .u32 B] w fun e w' => e = .returned (.bool true) ∧ Below w.heap.size w w' := by
  obtain ⟨p, c, rfl⟩ := h.slice
  rcases Nat.lt_or_ge 2000 xs.length with hn | hn
  · exact bursts_long p _ c a B hn w
  by_cases ha : a < 0 ∨ 8 * ((xs.length : Int) + 4) ≤ a
  · exact bursts_out p _ c a B xs w h rfl hn ha
  · have := bursts_main p _ c a.toNat B.toNat xs w h rfl hn (by omega) (by omega)
    rw [show ((a.toNat : Nat) : Int) = a by omega, show ((B.toNat : Nat) : Int) = B by omega] at this
    exact this

end Go.Proofs.Ytglmkjnhkjljpab
