/- The reference of package rate: powers of two, and a float's parts. -/
import Derived.Test.YtfohfpeeghnocabRefMd
import Derived.Test.YtfohfpeeghnocabFlt
namespace Go.Proofs.Ytfohfpeeghnocab
open Go.RowKit

theorem two_pow_lt {k L : Nat} (h : k < 16 * L) : 2 ^ k < 65536 ^ L := by
  have e : 65536 ^ L = 2 ^ (16 * L) := by rw [Nat.pow_mul]
  rw [e]
  exact Nat.pow_lt_pow_right (by omega) h

def PowRel (w : World) (n : Nat) (ov iv : Value) (wr : World) : Prop := ∃ k, k ≤ n ∧ iv = .int .i64 (k : Int) ∧ Num wr ov (2 ^ k) ∧ Below w.heap.size w wr ∧ Fr w.heap.size ov

set_option maxHeartbeats 1000000 in
theorem power_any (n : Nat) (hn : n ≤ 3000) (w : World) : Calls Try.prog 37 #[.int .i64 (n : Int)] w (NumPost w (2 ^ n)) := by
  go_enter Try.func37, Try.ntmps37
  go_wp2_with fail
  go_loopw [3, 4] (fun ov iv wr => PowRel w n ov iv wr) (fun _ iv _ => n - (intOf iv).toNat)
  case atStart => exact ⟨0, Nat.zero_le _, rfl, num_one w, bAl (bRef w) _, fun k hk => by simp [Value.ownBlock] at hk; omega⟩
  case round =>
    obtain ⟨k, hk, rfl, hnum, hbel, hfr⟩ := hrel
    have Hnum := Lib.hid hnum
    have Hbel := Lib.hid hbel
    have Hfr := Lib.hid hfr
    clear hnum hbel hfr
    rcases Nat.lt_or_ge k n with h | h
    · have hd : decide ((k : Int) < (n : Int)) = true := decide_eq_true (by omega)
      go_wp2_with (go_at_call 22; (with_reducible refine (add_any Hnum.out Hnum.out (L := 200) (two_pow_lt (by omega)) (two_pow_lt (by omega)) (by omega)).mono ?_); rintro e w1 ⟨v1, rfl, hn1, hb1, hf1⟩)
      go_roundw
      case rel => exact ⟨k + 1, by omega, by go_num, by rw [Nat.pow_succ, Nat.mul_two]; exact hn1, bTr' Hbel.out hb1, fun j hj => Nat.le_trans Hbel.out.size (hf1 j hj)⟩
      case measure => simp [intOf]; go_num
    · have hd : decide ((k : Int) < (n : Int)) = false := decide_eq_false (by omega)
      obtain rfl : k = n := by omega
      go_wp2_with fail
      go_ret
      exact ⟨_, rfl, Hnum.out, Hbel.out, Hfr.out⟩

/-- The answer of Parts: of a number, its digits with a power of two; else whether it is infinite. -/
def PartsPost (w : World) (minus : Bool) (m : Nat) (k : Int) (e : Ending) (w' : World) : Prop :=
  ∃ v, e = .returned (.tuple #[.bool minus, v, .int .i64 k, .bool true, .bool false]) ∧ Num w' v m ∧ Below w.heap.size w w' ∧ Fr w.heap.size v

theorem parts_none (b : Nat) (x y : Bool) (m : Int) (q : Int) (hq : IntKind.u64.wrap ((b : Int) / 4503599627370496) = q) (he : wrap64 (q.tmod 2048) = 2047) (hm : (b : Int).tmod 4503599627370496 = m) (hs : decide ((9223372036854775808 : Int) ≤ (b : Int)) = x) (hy : (m == 0) = y) (w : World) :
    Calls Try.prog 18 #[.int .u64 (b : Int)] w fun e w' => e = .returned (.tuple #[.bool x, .slice none 0 0, .int .i64 0, .bool false, .bool y]) ∧ Below w.heap.size w w' := by
  go_enter Try.func18, Try.ntmps18
  go_wp2_with fail
  exact bodyPost_ret (v := .tuple #[.bool x, .slice none 0 0, .int .i64 0, .bool false, .bool y]) (by simp [results, Try.results18, go_sem]) rfl ⟨rfl, bRef w⟩
theorem parts_sub (b m : Nat) (x : Bool) (q : Int) (hq : IntKind.u64.wrap ((b : Int) / 4503599627370496) = q) (he : wrap64 (q.tmod 2048) = 0) (hm : (b : Int).tmod 4503599627370496 = (m : Int)) (hlt : m < 18446744073709551616) (hs : decide ((9223372036854775808 : Int) ≤ (b : Int)) = x) (w : World) :
    Calls Try.prog 18 #[.int .u64 (b : Int)] w (PartsPost w x m 1074) := by
  go_enter Try.func18, Try.ntmps18
  go_wp2_with (go_at_call 21; (with_reducible refine (of_any m hlt _).mono ?_); rintro e w1 ⟨v1, rfl, hn1, hb1, hf1⟩)
  exact bodyPost_ret (v := .tuple #[.bool x, v1, .int .i64 1074, .bool true, .bool false]) (by simp [results, Try.results18, go_sem]) rfl ⟨_, rfl, hn1, hb1, hf1⟩
theorem parts_norm (b m M : Nat) (ex K : Int) (x : Bool) (q : Int) (hq : IntKind.u64.wrap ((b : Int) / 4503599627370496) = q) (he : wrap64 (q.tmod 2048) = ex) (h1 : (ex == 2047) = false) (h2 : (ex == 0) = false) (hm : (b : Int).tmod 4503599627370496 = (m : Int))
    (hM : IntKind.u64.wrap ((m : Int) + 4503599627370496) = (M : Int)) (hlt : M < 18446744073709551616) (hK : wrap64 (1075 - ex) = K) (hs : decide ((9223372036854775808 : Int) ≤ (b : Int)) = x) (w : World) :
    Calls Try.prog 18 #[.int .u64 (b : Int)] w (PartsPost w x M K) := by
  go_enter Try.func18, Try.ntmps18
  go_wp2_with (go_at_call 21; (with_reducible refine (of_any M hlt _).mono ?_); rintro e w1 ⟨v1, rfl, hn1, hb1, hf1⟩)
  exact bodyPost_ret (v := .tuple #[.bool x, v1, .int .i64 K, .bool true, .bool false]) (by simp [results, Try.results18, go_sem, hK]) rfl ⟨_, rfl, hn1, hb1, hf1⟩

def mag (b : Nat) : Nat := if rung b < 4503599627370496 then rung b else 4503599627370496 + b % 4503599627370496
def ex (b : Nat) : Nat := if rung b < 4503599627370496 then 1 else rung b / 4503599627370496
theorem parts_fin {b : Nat} (h : Fin64 b) (w : World) : Calls Try.prog 18 #[.int .u64 (b : Int)] w (PartsPost w (decide (9223372036854775808 ≤ b)) (mag b) (1075 - (ex b : Int))) := by
  obtain ⟨h1, h2⟩ := h
  have hs : decide ((9223372036854775808 : Int) ≤ (b : Int)) = decide (9223372036854775808 ≤ b) := decide_eq_decide.2 (by omega)
  have hq : IntKind.u64.wrap ((b : Int) / 4503599627370496) = ((b / 4503599627370496 : Nat) : Int) := by rw [IntKind.wrap_u64]; omega
  have hm : (b : Int).tmod 4503599627370496 = ((b % 4503599627370496 : Nat) : Int) := by rw [Int.tmod_eq_emod_of_nonneg (by omega)]; omega
  have hd : ((b / 4503599627370496 : Nat) : Int).tmod 2048 = ((b % 9223372036854775808 / 4503599627370496 : Nat) : Int) := by rw [Int.tmod_eq_emod_of_nonneg (by omega)]; omega
  unfold rung at h2
  unfold mag ex rung
  by_cases h3 : b % 9223372036854775808 < 4503599627370496
  · rw [if_pos h3, if_pos h3]
    have e1 : b % 9223372036854775808 = b % 4503599627370496 := by omega
    rw [e1]
    exact parts_sub b (b % 4503599627370496) _ _ hq (by rw [hd]; unfold wrap64; omega) hm (by omega) hs w
  · rw [if_neg h3, if_neg h3]
    have he : wrap64 (((b / 4503599627370496 : Nat) : Int).tmod 2048) = ((b % 9223372036854775808 / 4503599627370496 : Nat) : Int) := by rw [hd]; unfold wrap64; omega
    exact parts_norm b (b % 4503599627370496) _ _ _ _ _ hq he (by rw [beq_eq_false_iff_ne]; omega) (by rw [beq_eq_false_iff_ne]; omega) hm (by rw [IntKind.wrap_u64]; omega) (by omega) (by unfold wrap64; omega) hs w
theorem parts_inf {b : Nat} (h : b < 18446744073709551616) (h2 : 9218868437227405312 ≤ rung b) : Ret 18 #[.int .u64 (b : Int)]
    (.tuple #[.bool (decide (9223372036854775808 ≤ b)), .slice none 0 0, .int .i64 0, .bool false, .bool (decide (rung b = 9218868437227405312))]) := fun w => by
  have hs : decide ((9223372036854775808 : Int) ≤ (b : Int)) = decide (9223372036854775808 ≤ b) := decide_eq_decide.2 (by omega)
  unfold rung at *
  have hq : IntKind.u64.wrap ((b : Int) / 4503599627370496) = ((b / 4503599627370496 : Nat) : Int) := by rw [IntKind.wrap_u64]; omega
  have hm : (b : Int).tmod 4503599627370496 = ((b % 4503599627370496 : Nat) : Int) := by rw [Int.tmod_eq_emod_of_nonneg (by omega)]; omega
  have hd : ((b / 4503599627370496 : Nat) : Int).tmod 2048 = 2047 := by rw [Int.tmod_eq_emod_of_nonneg (by omega)]; omega
  refine parts_none b _ _ _ _ hq (by rw [hd]; unfold wrap64; omega) hm hs ?_ w
  by_cases hh : b % 9223372036854775808 = 9218868437227405312
  · rw [decide_eq_true hh, beq_iff_eq]; omega
  · rw [decide_eq_false hh, beq_eq_false_iff_ne]; omega
theorem mag_val {b : Nat} : val (rung b) = mag b * 2 ^ (ex b - 1) := by
  unfold val mag ex
  by_cases h : rung b < 4503599627370496
  · rw [if_pos h, if_pos h, if_pos h]; simp
  · rw [if_neg h, if_neg h, if_neg h]
    have e : rung b % 4503599627370496 = b % 4503599627370496 := Nat.mod_mod_of_dvd _ ⟨2048, rfl⟩
    rw [e]

end Go.Proofs.Ytfohfpeeghnocab
