/- RatePpms: how many millionths faster a rate is, exactly. -/
import Derived.Test.YtfohfpeeghnocabPpm
import Derived.Test.YtfohfpeeghnocabRefOf
namespace Go.Proofs.Ytfohfpeeghnocab
open Go.RowKit

theorem isNaN_ret : Ret 17 #[.float .f64 9221120237041090561] (.bool true) := fun w => by
  have hc : (FloatKind.f64.format.order 9221120237041090561 9221120237041090561 != some .eq) = true := by decide
  go_enter Try.func17, Try.ntmps17
  go_wp2
  go_ret
  exact ⟨rfl, bRef w⟩
theorem ppms_not (r : Int) (H0 : Ret 10 #[] (.bool true)) (HC : Ret 14 #[.int .i64 r] (.int .i64 50)) (HR : Ret 15 #[.int .i64 r] (.bool false)) (HP : Ret 16 #[.int .i64 r] (.float .f64 9221120237041090561)) (w : World) :
    Calls Try.prog 4 #[.int .i64 r] w fun e w' => e = .returned (.bool true) ∧ Below w.heap.size w w' := by
  have HN := isNaN_ret
  have HH := bRef w
  go_enter Try.func4, Try.ntmps4
  go_wp2_with (first
    | (go_at_call 10; (with_reducible refine (H0.go _).mono ?_); rintro e wx ⟨rfl, hb⟩; (first | replace HH := bTr HH hb | replace HH := bTr (bDr HH _) hb);  clear hb)
    | (go_at_call 14; (with_reducible refine (HC.go _).mono ?_); rintro e wx ⟨rfl, hb⟩; (first | replace HH := bTr HH hb | replace HH := bTr (bDr HH _) hb);  clear hb)
    | (go_at_call 15; (with_reducible refine (HR.go _).mono ?_); rintro e wx ⟨rfl, hb⟩; (first | replace HH := bTr HH hb | replace HH := bTr (bDr HH _) hb);  clear hb)
    | (go_at_call 16; (with_reducible refine (HP.go _).mono ?_); rintro e wx ⟨rfl, hb⟩; (first | replace HH := bTr HH hb | replace HH := bTr (bDr HH _) hb);  clear hb)
    | (go_at_call 17; (with_reducible refine (HN.go _).mono ?_); rintro e wx ⟨rfl, hb⟩; (first | replace HH := bTr HH hb | replace HH := bTr (bDr HH _) hb);  clear hb))
  go_ret
  exact ⟨rfl, HH⟩

def DblRel (w : World) (n : Nat) (vm vr : Value) (M A : Nat) (ov iv : Value) (wr : World) : Prop := ∃ k, k ≤ n ∧ iv = .int .i64 (k : Int) ∧ Num wr ov (M * 2 ^ k) ∧ Num wr vm M ∧ Num wr vr A ∧ Below w.heap.size w wr
def DblRel2 (w : World) (n : Nat) (vm vl : Value) (M B A : Nat) (ov iv : Value) (wr : World) : Prop := ∃ k, k ≤ n ∧ iv = .int .i64 (k : Int) ∧ Num wr ov (A * 2 ^ k) ∧ Num wr vm M ∧ Num wr vl B ∧ Below w.heap.size w wr

theorem dbl_lt {M k : Nat} (hM : M < 9007199254740992) (hk : k ≤ 41) : M * 2 ^ k < 65536 ^ 200 := by
  have h1 : M * 2 ^ k < 2 ^ 53 * 2 ^ k := Nat.mul_lt_mul_of_pos_right hM (Nat.two_pow_pos _)
  rw [← Nat.pow_add] at h1
  exact Nat.lt_trans h1 (two_pow_lt (by omega))
theorem dbl_lt2 {A k : Nat} (hA : A ≤ 17179869184) (hk : k ≤ 1074) : A * 1000000 * 2 ^ k < 65536 ^ 200 := by
  have h0 : A * 1000000 < 2 ^ 60 := by omega
  have h1 : A * 1000000 * 2 ^ k < 2 ^ 60 * 2 ^ k := Nat.mul_lt_mul_of_pos_right h0 (Nat.two_pow_pos _)
  rw [← Nat.pow_add] at h1
  exact Nat.lt_trans h1 (two_pow_lt (by omega))

set_option maxHeartbeats 2000000 in
theorem ppms_zero (r d : Int) (pb M K A : Nat) (x : Bool) (H0 : Ret 10 #[] (.bool true)) (HC : Ret 14 #[.int .i64 r] (.int .i64 0)) (HR : Ret 15 #[.int .i64 r] (.bool true)) (HPp : Ret 16 #[.int .i64 r] (.float .f64 pb))
    (HP : ∀ w, Calls Try.prog 18 #[.int .u64 (pb : Int)] w (PartsPost w x M (K : Int))) (hd : wrap64 (r - 2199023255552) = d) (hs : decide (d < 0) = x) (HA : ∀ w, Calls Try.prog 20 #[.int .i64 d] w (NumPost w A))
    (la : A < 65536 ^ 200) (lq : 1000000 < 65536 ^ 200) (hK : K ≤ 1074) (hA : A ≤ 17179869184) (hM : M < 9007199254740992) (hz : (d == 0) = true) (hM0 : M = 0) (w : World) :
    Calls Try.prog 4 #[.int .i64 r] w fun e w' => e = .returned (.bool true) ∧ Below w.heap.size w w' := by
  have H6 : ∀ w, Calls Try.prog 21 #[.int .u64 1000000] w (NumPost w 1000000) := fun w => of_any 1000000 (by omega) w
  have hbits := fun W => f64bits_eq pb W
  have HH := bRef w
  cases x
  all_goals
  go_enter Try.func4, Try.ntmps4
  go_wp2_with (first
    | (go_at_call 10; (with_reducible refine (H0.go _).mono ?_); rintro e wx ⟨rfl, hb⟩; (first | replace HH := bTr HH hb | replace HH := bTr (bDr HH _) hb);  clear hb)
    | (go_at_call 14; (with_reducible refine (HC.go _).mono ?_); rintro e wx ⟨rfl, hb⟩; (first | replace HH := bTr HH hb | replace HH := bTr (bDr HH _) hb);  clear hb)
    | (go_at_call 15; (with_reducible refine (HR.go _).mono ?_); rintro e wx ⟨rfl, hb⟩; (first | replace HH := bTr HH hb | replace HH := bTr (bDr HH _) hb);  clear hb)
    | (go_at_call 16; (with_reducible refine (HPp.go _).mono ?_); rintro e wx ⟨rfl, hb⟩; (first | replace HH := bTr HH hb | replace HH := bTr (bDr HH _) hb);  clear hb)
    | (go_at_call 18; (with_reducible refine (HP _).mono ?_); rintro e wx ⟨v1, rfl, hn, hb, hf⟩; have HM := Lib.hid hn; (first | replace HH := bTr HH hb | replace HH := bTr (bDr HH _) hb); clear hn hb hf)
    | (go_at_call 20; (with_reducible refine (HA _).mono ?_); rintro e wx ⟨v2, rfl, hn, hb, hf⟩; have HX := Lib.hid hn; replace HM := Lib.hid (HM.out.below hb); (first | replace HH := bTr HH hb | replace HH := bTr (bDr HH _) hb); clear hn hb hf)
    | (go_at_call 21; (with_reducible refine (H6 _).mono ?_); rintro e wx ⟨v3, rfl, hn, hb, hf⟩; have HQ := Lib.hid hn; replace HM := Lib.hid (HM.out.below hb); replace HX := Lib.hid (HX.out.below hb); (first | replace HH := bTr HH hb | replace HH := bTr (bDr HH _) hb); clear hn hb hf)
    | (go_at_call 19; (with_reducible refine (mul_any HX.out HQ.out (L := 200) la lq (by omega)).mono ?_); rintro e wx ⟨v4, rfl, hn, hb, hf⟩; have HY := Lib.hid hn; replace HM := Lib.hid (HM.out.below hb); (first | replace HH := bTr HH hb | replace HH := bTr (bDr HH _) hb); clear hn hb hf))
  go_loopw [11, 13] (fun ov iv wr => DblRel w 41 v1 v4 M (A * 1000000) ov iv wr) (fun _ iv _ => 41 - (intOf iv).toNat)
  case atStart => exact ⟨0, by omega, rfl, by rw [Nat.pow_zero, Nat.mul_one]; exact HM.out, HM.out, HY.out, HH⟩
  case round =>
    clear HH HM HY HX HQ
    obtain ⟨k, hk, rfl, hn1, hn2, hn3, hb1⟩ := hrel
    have HN := Lib.hid hn1
    have HM := Lib.hid hn2
    have HY := Lib.hid hn3
    have HB := Lib.hid hb1
    clear hn1 hn2 hn3 hb1
    rcases Nat.lt_or_ge k 41 with h | h
    · have hdec : decide ((k : Int) < 41) = true := decide_eq_true (by omega)
      have hl := dbl_lt (M := M) (k := k) (by omega) (by omega)
      go_wp2_with (go_at_call 22; (with_reducible refine (add_any HN.out HN.out (L := 200) hl hl (by omega)).mono ?_); rintro e w1 ⟨v5, rfl, hn, hb, hf⟩; replace HM := Lib.hid (HM.out.below hb); replace HY := Lib.hid (HY.out.below hb); replace HB := Lib.hid (bTr' HB.out hb); clear hb hf)
      go_roundw
      case rel => exact ⟨k + 1, by omega, by go_num, by rw [Nat.pow_succ, Nat.mul_two, Nat.mul_add]; exact hn, HM.out, HY.out, HB.out⟩
      case measure => simp [intOf]; go_num
    · have hdec : decide ((k : Int) < 41) = false := decide_eq_false (by omega)
      have hk41 : k = 41 := by omega
      rw [hk41] at HN
      clear h hk hk41
      go_wp2_with fail
      obtain ⟨vl, hvl⟩ : ∃ vl : Value, vl = u11 := ⟨_, rfl⟩
      subst hvl
      go_loopw [12, 14] (fun ov iv wr => DblRel2 w K v1 vl M (M * 2 ^ 41) (A * 1000000) ov iv wr) (fun _ iv _ => K - (intOf iv).toNat)
      case atStart => exact ⟨0, by omega, rfl, by rw [Nat.pow_zero, Nat.mul_one]; exact HY.out, HM.out, HN.out, HB.out⟩
      case round =>
        clear HY HM HN HB
        obtain ⟨k, hk, rfl, hn1, hn2, hn3, hb1⟩ := hrel
        have HN := Lib.hid hn1
        have HM := Lib.hid hn2
        have HY := Lib.hid hn3
        have HB := Lib.hid hb1
        clear hn1 hn2 hn3 hb1
        rcases Nat.lt_or_ge k K with h | h
        · have hdec : decide ((k : Int) < (K : Int)) = true := decide_eq_true (by omega)
          have hdec2 : decide ((k : Int) < 1100) = true := decide_eq_true (by omega)
          have hl := dbl_lt2 (A := A) (k := k) hA (by omega)
          go_wp2_with (go_at_call 22; (with_reducible refine (add_any HN.out HN.out (L := 200) hl hl (by omega)).mono ?_); rintro e w1 ⟨v5, rfl, hn, hb, hf⟩; replace HM := Lib.hid (HM.out.below hb); replace HY := Lib.hid (HY.out.below hb); replace HB := Lib.hid (bTr' HB.out hb); clear hb hf)
          go_roundw
          case rel => exact ⟨k + 1, by omega, by go_num, by rw [Nat.pow_succ, Nat.mul_two, Nat.mul_add]; exact hn, HM.out, HY.out, HB.out⟩
          case measure => simp [intOf]; go_num
        · have hdec : decide ((k : Int) < (K : Int)) = false := decide_eq_false (by omega)
          obtain rfl : k = K := by omega
          clear h hk
          obtain ⟨bb, oo, cc, ds, rfl, hcc, hrr, hdd⟩ := HM.out
          have hlen : ds.length = 0 := by rw [hM0] at hdd; exact (Dg.IsD.zero_iff hdd).2 rfl
          go_wp2_with fail
          go_ret
          exact ⟨by simp [hlen], HB.out⟩

set_option maxHeartbeats 2000000 in
theorem ppms_gt (r d : Int) (pb M K A : Nat) (x : Bool) (H0 : Ret 10 #[] (.bool true)) (HC : Ret 14 #[.int .i64 r] (.int .i64 0)) (HR : Ret 15 #[.int .i64 r] (.bool true)) (HPp : Ret 16 #[.int .i64 r] (.float .f64 pb))
    (HP : ∀ w, Calls Try.prog 18 #[.int .u64 (pb : Int)] w (PartsPost w x M (K : Int))) (hd : wrap64 (r - 2199023255552) = d) (hs : decide (d < 0) = x) (HA : ∀ w, Calls Try.prog 20 #[.int .i64 d] w (NumPost w A))
    (la : A < 65536 ^ 200) (lq : 1000000 < 65536 ^ 200) (hK : K ≤ 1074) (hA : A ≤ 17179869184) (hM : M < 9007199254740992) (hz : (d == 0) = false) (hk0 : decide ((K : Int) < 0) = false) (hc : Dg.cmpN (M * 2 ^ 41) (A * 1000000 * 2 ^ K) = 0) (hg : (FloatKind.f64.format.order pb 4662219572839972864 == some .gt) = true) (w : World) :
    Calls Try.prog 4 #[.int .i64 r] w fun e w' => e = .returned (.bool true) ∧ Below w.heap.size w w' := by
  have H6 : ∀ w, Calls Try.prog 21 #[.int .u64 1000000] w (NumPost w 1000000) := fun w => of_any 1000000 (by omega) w
  have hbits := fun W => f64bits_eq pb W
  have HH := bRef w
  cases x
  all_goals
  go_enter Try.func4, Try.ntmps4
  go_wp2_with (first
    | (go_at_call 10; (with_reducible refine (H0.go _).mono ?_); rintro e wx ⟨rfl, hb⟩; (first | replace HH := bTr HH hb | replace HH := bTr (bDr HH _) hb);  clear hb)
    | (go_at_call 14; (with_reducible refine (HC.go _).mono ?_); rintro e wx ⟨rfl, hb⟩; (first | replace HH := bTr HH hb | replace HH := bTr (bDr HH _) hb);  clear hb)
    | (go_at_call 15; (with_reducible refine (HR.go _).mono ?_); rintro e wx ⟨rfl, hb⟩; (first | replace HH := bTr HH hb | replace HH := bTr (bDr HH _) hb);  clear hb)
    | (go_at_call 16; (with_reducible refine (HPp.go _).mono ?_); rintro e wx ⟨rfl, hb⟩; (first | replace HH := bTr HH hb | replace HH := bTr (bDr HH _) hb);  clear hb)
    | (go_at_call 18; (with_reducible refine (HP _).mono ?_); rintro e wx ⟨v1, rfl, hn, hb, hf⟩; have HM := Lib.hid hn; (first | replace HH := bTr HH hb | replace HH := bTr (bDr HH _) hb); clear hn hb hf)
    | (go_at_call 20; (with_reducible refine (HA _).mono ?_); rintro e wx ⟨v2, rfl, hn, hb, hf⟩; have HX := Lib.hid hn; replace HM := Lib.hid (HM.out.below hb); (first | replace HH := bTr HH hb | replace HH := bTr (bDr HH _) hb); clear hn hb hf)
    | (go_at_call 21; (with_reducible refine (H6 _).mono ?_); rintro e wx ⟨v3, rfl, hn, hb, hf⟩; have HQ := Lib.hid hn; replace HM := Lib.hid (HM.out.below hb); replace HX := Lib.hid (HX.out.below hb); (first | replace HH := bTr HH hb | replace HH := bTr (bDr HH _) hb); clear hn hb hf)
    | (go_at_call 19; (with_reducible refine (mul_any HX.out HQ.out (L := 200) la lq (by omega)).mono ?_); rintro e wx ⟨v4, rfl, hn, hb, hf⟩; have HY := Lib.hid hn; replace HM := Lib.hid (HM.out.below hb); (first | replace HH := bTr HH hb | replace HH := bTr (bDr HH _) hb); clear hn hb hf))
  go_loopw [11, 13] (fun ov iv wr => DblRel w 41 v1 v4 M (A * 1000000) ov iv wr) (fun _ iv _ => 41 - (intOf iv).toNat)
  case atStart => exact ⟨0, by omega, rfl, by rw [Nat.pow_zero, Nat.mul_one]; exact HM.out, HM.out, HY.out, HH⟩
  case round =>
    clear HH HM HY HX HQ
    obtain ⟨k, hk, rfl, hn1, hn2, hn3, hb1⟩ := hrel
    have HN := Lib.hid hn1
    have HM := Lib.hid hn2
    have HY := Lib.hid hn3
    have HB := Lib.hid hb1
    clear hn1 hn2 hn3 hb1
    rcases Nat.lt_or_ge k 41 with h | h
    · have hdec : decide ((k : Int) < 41) = true := decide_eq_true (by omega)
      have hl := dbl_lt (M := M) (k := k) (by omega) (by omega)
      go_wp2_with (go_at_call 22; (with_reducible refine (add_any HN.out HN.out (L := 200) hl hl (by omega)).mono ?_); rintro e w1 ⟨v5, rfl, hn, hb, hf⟩; replace HM := Lib.hid (HM.out.below hb); replace HY := Lib.hid (HY.out.below hb); replace HB := Lib.hid (bTr' HB.out hb); clear hb hf)
      go_roundw
      case rel => exact ⟨k + 1, by omega, by go_num, by rw [Nat.pow_succ, Nat.mul_two, Nat.mul_add]; exact hn, HM.out, HY.out, HB.out⟩
      case measure => simp [intOf]; go_num
    · have hdec : decide ((k : Int) < 41) = false := decide_eq_false (by omega)
      have hk41 : k = 41 := by omega
      rw [hk41] at HN
      clear h hk hk41
      go_wp2_with fail
      obtain ⟨vl, hvl⟩ : ∃ vl : Value, vl = u11 := ⟨_, rfl⟩
      subst hvl
      go_loopw [12, 14] (fun ov iv wr => DblRel2 w K v1 vl M (M * 2 ^ 41) (A * 1000000) ov iv wr) (fun _ iv _ => K - (intOf iv).toNat)
      case atStart => exact ⟨0, by omega, rfl, by rw [Nat.pow_zero, Nat.mul_one]; exact HY.out, HM.out, HN.out, HB.out⟩
      case round =>
        clear HY HM HN HB
        obtain ⟨k, hk, rfl, hn1, hn2, hn3, hb1⟩ := hrel
        have HN := Lib.hid hn1
        have HM := Lib.hid hn2
        have HY := Lib.hid hn3
        have HB := Lib.hid hb1
        clear hn1 hn2 hn3 hb1
        rcases Nat.lt_or_ge k K with h | h
        · have hdec : decide ((k : Int) < (K : Int)) = true := decide_eq_true (by omega)
          have hdec2 : decide ((k : Int) < 1100) = true := decide_eq_true (by omega)
          have hl := dbl_lt2 (A := A) (k := k) hA (by omega)
          go_wp2_with (go_at_call 22; (with_reducible refine (add_any HN.out HN.out (L := 200) hl hl (by omega)).mono ?_); rintro e w1 ⟨v5, rfl, hn, hb, hf⟩; replace HM := Lib.hid (HM.out.below hb); replace HY := Lib.hid (HY.out.below hb); replace HB := Lib.hid (bTr' HB.out hb); clear hb hf)
          go_roundw
          case rel => exact ⟨k + 1, by omega, by go_num, by rw [Nat.pow_succ, Nat.mul_two, Nat.mul_add]; exact hn, HM.out, HY.out, HB.out⟩
          case measure => simp [intOf]; go_num
        · have hdec : decide ((k : Int) < (K : Int)) = false := decide_eq_false (by omega)
          obtain rfl : k = K := by omega
          clear h hk
          go_wp2_with (go_at_call 23; (with_reducible refine (cmp_at HY.out HN.out (L := 200) (dbl_lt hM (by omega)) (by omega) hc).mono ?_); rintro e wx ⟨rfl, q, rfl⟩; replace HB := Lib.hid (bDr' HB.out q))
          go_ret
          exact ⟨rfl, HB.out⟩

set_option maxHeartbeats 2000000 in
theorem ppms_lt (r d : Int) (pb M K A : Nat) (x : Bool) (H0 : Ret 10 #[] (.bool true)) (HC : Ret 14 #[.int .i64 r] (.int .i64 0)) (HR : Ret 15 #[.int .i64 r] (.bool true)) (HPp : Ret 16 #[.int .i64 r] (.float .f64 pb))
    (HP : ∀ w, Calls Try.prog 18 #[.int .u64 (pb : Int)] w (PartsPost w x M (K : Int))) (hd : wrap64 (r - 2199023255552) = d) (hs : decide (d < 0) = x) (HA : ∀ w, Calls Try.prog 20 #[.int .i64 d] w (NumPost w A))
    (la : A < 65536 ^ 200) (lq : 1000000 < 65536 ^ 200) (hK : K ≤ 1074) (hA : A ≤ 17179869184) (hM : M < 9007199254740992) (hz : (d == 0) = false) (hk0 : decide ((K : Int) < 0) = false) (hc : Dg.cmpN (M * 2 ^ 41) (A * 1000000 * 2 ^ K) = 0) (hg : (FloatKind.f64.format.order pb 4662219572839972864 == some .gt) = false) (hl : (FloatKind.f64.format.order pb 13885591609694748672 == some .lt) = true) (w : World) :
    Calls Try.prog 4 #[.int .i64 r] w fun e w' => e = .returned (.bool true) ∧ Below w.heap.size w w' := by
  have H6 : ∀ w, Calls Try.prog 21 #[.int .u64 1000000] w (NumPost w 1000000) := fun w => of_any 1000000 (by omega) w
  have hbits := fun W => f64bits_eq pb W
  have HH := bRef w
  cases x
  all_goals
  go_enter Try.func4, Try.ntmps4
  go_wp2_with (first
    | (go_at_call 10; (with_reducible refine (H0.go _).mono ?_); rintro e wx ⟨rfl, hb⟩; (first | replace HH := bTr HH hb | replace HH := bTr (bDr HH _) hb);  clear hb)
    | (go_at_call 14; (with_reducible refine (HC.go _).mono ?_); rintro e wx ⟨rfl, hb⟩; (first | replace HH := bTr HH hb | replace HH := bTr (bDr HH _) hb);  clear hb)
    | (go_at_call 15; (with_reducible refine (HR.go _).mono ?_); rintro e wx ⟨rfl, hb⟩; (first | replace HH := bTr HH hb | replace HH := bTr (bDr HH _) hb);  clear hb)
    | (go_at_call 16; (with_reducible refine (HPp.go _).mono ?_); rintro e wx ⟨rfl, hb⟩; (first | replace HH := bTr HH hb | replace HH := bTr (bDr HH _) hb);  clear hb)
    | (go_at_call 18; (with_reducible refine (HP _).mono ?_); rintro e wx ⟨v1, rfl, hn, hb, hf⟩; have HM := Lib.hid hn; (first | replace HH := bTr HH hb | replace HH := bTr (bDr HH _) hb); clear hn hb hf)
    | (go_at_call 20; (with_reducible refine (HA _).mono ?_); rintro e wx ⟨v2, rfl, hn, hb, hf⟩; have HX := Lib.hid hn; replace HM := Lib.hid (HM.out.below hb); (first | replace HH := bTr HH hb | replace HH := bTr (bDr HH _) hb); clear hn hb hf)
    | (go_at_call 21; (with_reducible refine (H6 _).mono ?_); rintro e wx ⟨v3, rfl, hn, hb, hf⟩; have HQ := Lib.hid hn; replace HM := Lib.hid (HM.out.below hb); replace HX := Lib.hid (HX.out.below hb); (first | replace HH := bTr HH hb | replace HH := bTr (bDr HH _) hb); clear hn hb hf)
    | (go_at_call 19; (with_reducible refine (mul_any HX.out HQ.out (L := 200) la lq (by omega)).mono ?_); rintro e wx ⟨v4, rfl, hn, hb, hf⟩; have HY := Lib.hid hn; replace HM := Lib.hid (HM.out.below hb); (first | replace HH := bTr HH hb | replace HH := bTr (bDr HH _) hb); clear hn hb hf))
  go_loopw [11, 13] (fun ov iv wr => DblRel w 41 v1 v4 M (A * 1000000) ov iv wr) (fun _ iv _ => 41 - (intOf iv).toNat)
  case atStart => exact ⟨0, by omega, rfl, by rw [Nat.pow_zero, Nat.mul_one]; exact HM.out, HM.out, HY.out, HH⟩
  case round =>
    clear HH HM HY HX HQ
    obtain ⟨k, hk, rfl, hn1, hn2, hn3, hb1⟩ := hrel
    have HN := Lib.hid hn1
    have HM := Lib.hid hn2
    have HY := Lib.hid hn3
    have HB := Lib.hid hb1
    clear hn1 hn2 hn3 hb1
    rcases Nat.lt_or_ge k 41 with h | h
    · have hdec : decide ((k : Int) < 41) = true := decide_eq_true (by omega)
      have hl := dbl_lt (M := M) (k := k) (by omega) (by omega)
      go_wp2_with (go_at_call 22; (with_reducible refine (add_any HN.out HN.out (L := 200) hl hl (by omega)).mono ?_); rintro e w1 ⟨v5, rfl, hn, hb, hf⟩; replace HM := Lib.hid (HM.out.below hb); replace HY := Lib.hid (HY.out.below hb); replace HB := Lib.hid (bTr' HB.out hb); clear hb hf)
      go_roundw
      case rel => exact ⟨k + 1, by omega, by go_num, by rw [Nat.pow_succ, Nat.mul_two, Nat.mul_add]; exact hn, HM.out, HY.out, HB.out⟩
      case measure => simp [intOf]; go_num
    · have hdec : decide ((k : Int) < 41) = false := decide_eq_false (by omega)
      have hk41 : k = 41 := by omega
      rw [hk41] at HN
      clear h hk hk41
      go_wp2_with fail
      obtain ⟨vl, hvl⟩ : ∃ vl : Value, vl = u11 := ⟨_, rfl⟩
      subst hvl
      go_loopw [12, 14] (fun ov iv wr => DblRel2 w K v1 vl M (M * 2 ^ 41) (A * 1000000) ov iv wr) (fun _ iv _ => K - (intOf iv).toNat)
      case atStart => exact ⟨0, by omega, rfl, by rw [Nat.pow_zero, Nat.mul_one]; exact HY.out, HM.out, HN.out, HB.out⟩
      case round =>
        clear HY HM HN HB
        obtain ⟨k, hk, rfl, hn1, hn2, hn3, hb1⟩ := hrel
        have HN := Lib.hid hn1
        have HM := Lib.hid hn2
        have HY := Lib.hid hn3
        have HB := Lib.hid hb1
        clear hn1 hn2 hn3 hb1
        rcases Nat.lt_or_ge k K with h | h
        · have hdec : decide ((k : Int) < (K : Int)) = true := decide_eq_true (by omega)
          have hdec2 : decide ((k : Int) < 1100) = true := decide_eq_true (by omega)
          have hl := dbl_lt2 (A := A) (k := k) hA (by omega)
          go_wp2_with (go_at_call 22; (with_reducible refine (add_any HN.out HN.out (L := 200) hl hl (by omega)).mono ?_); rintro e w1 ⟨v5, rfl, hn, hb, hf⟩; replace HM := Lib.hid (HM.out.below hb); replace HY := Lib.hid (HY.out.below hb); replace HB := Lib.hid (bTr' HB.out hb); clear hb hf)
          go_roundw
          case rel => exact ⟨k + 1, by omega, by go_num, by rw [Nat.pow_succ, Nat.mul_two, Nat.mul_add]; exact hn, HM.out, HY.out, HB.out⟩
          case measure => simp [intOf]; go_num
        · have hdec : decide ((k : Int) < (K : Int)) = false := decide_eq_false (by omega)
          obtain rfl : k = K := by omega
          clear h hk
          go_wp2_with (go_at_call 23; (with_reducible refine (cmp_at HY.out HN.out (L := 200) (dbl_lt hM (by omega)) (by omega) hc).mono ?_); rintro e wx ⟨rfl, q, rfl⟩; replace HB := Lib.hid (bDr' HB.out q))
          go_ret
          exact ⟨rfl, HB.out⟩

set_option maxHeartbeats 2000000 in
theorem ppms_of (r d : Int) (pb M K A : Nat) (x : Bool) (H0 : Ret 10 #[] (.bool true)) (HC : Ret 14 #[.int .i64 r] (.int .i64 0)) (HR : Ret 15 #[.int .i64 r] (.bool true)) (HPp : Ret 16 #[.int .i64 r] (.float .f64 pb))
    (HP : ∀ w, Calls Try.prog 18 #[.int .u64 (pb : Int)] w (PartsPost w x M (K : Int))) (hd : wrap64 (r - 2199023255552) = d) (hs : decide (d < 0) = x) (HA : ∀ w, Calls Try.prog 20 #[.int .i64 d] w (NumPost w A))
    (la : A < 65536 ^ 200) (lq : 1000000 < 65536 ^ 200) (hK : K ≤ 1074) (hA : A ≤ 17179869184) (hM : M < 9007199254740992) (hz : (d == 0) = false) (hk0 : decide ((K : Int) < 0) = false) (hc : Dg.cmpN (M * 2 ^ 41) (A * 1000000 * 2 ^ K) = 0) (hg : (FloatKind.f64.format.order pb 4662219572839972864 == some .gt) = false) (hl : (FloatKind.f64.format.order pb 13885591609694748672 == some .lt) = false) (HO : Ret 11 #[.float .f64 pb] (.tuple #[.int .i64 r, .int .i64 0])) (w : World) :
    Calls Try.prog 4 #[.int .i64 r] w fun e w' => e = .returned (.bool true) ∧ Below w.heap.size w w' := by
  have H6 : ∀ w, Calls Try.prog 21 #[.int .u64 1000000] w (NumPost w 1000000) := fun w => of_any 1000000 (by omega) w
  have hbits := fun W => f64bits_eq pb W
  have HH := bRef w
  cases x
  all_goals
  go_enter Try.func4, Try.ntmps4
  go_wp2_with (first
    | (go_at_call 10; (with_reducible refine (H0.go _).mono ?_); rintro e wx ⟨rfl, hb⟩; (first | replace HH := bTr HH hb | replace HH := bTr (bDr HH _) hb);  clear hb)
    | (go_at_call 14; (with_reducible refine (HC.go _).mono ?_); rintro e wx ⟨rfl, hb⟩; (first | replace HH := bTr HH hb | replace HH := bTr (bDr HH _) hb);  clear hb)
    | (go_at_call 15; (with_reducible refine (HR.go _).mono ?_); rintro e wx ⟨rfl, hb⟩; (first | replace HH := bTr HH hb | replace HH := bTr (bDr HH _) hb);  clear hb)
    | (go_at_call 16; (with_reducible refine (HPp.go _).mono ?_); rintro e wx ⟨rfl, hb⟩; (first | replace HH := bTr HH hb | replace HH := bTr (bDr HH _) hb);  clear hb)
    | (go_at_call 18; (with_reducible refine (HP _).mono ?_); rintro e wx ⟨v1, rfl, hn, hb, hf⟩; have HM := Lib.hid hn; (first | replace HH := bTr HH hb | replace HH := bTr (bDr HH _) hb); clear hn hb hf)
    | (go_at_call 20; (with_reducible refine (HA _).mono ?_); rintro e wx ⟨v2, rfl, hn, hb, hf⟩; have HX := Lib.hid hn; replace HM := Lib.hid (HM.out.below hb); (first | replace HH := bTr HH hb | replace HH := bTr (bDr HH _) hb); clear hn hb hf)
    | (go_at_call 21; (with_reducible refine (H6 _).mono ?_); rintro e wx ⟨v3, rfl, hn, hb, hf⟩; have HQ := Lib.hid hn; replace HM := Lib.hid (HM.out.below hb); replace HX := Lib.hid (HX.out.below hb); (first | replace HH := bTr HH hb | replace HH := bTr (bDr HH _) hb); clear hn hb hf)
    | (go_at_call 19; (with_reducible refine (mul_any HX.out HQ.out (L := 200) la lq (by omega)).mono ?_); rintro e wx ⟨v4, rfl, hn, hb, hf⟩; have HY := Lib.hid hn; replace HM := Lib.hid (HM.out.below hb); (first | replace HH := bTr HH hb | replace HH := bTr (bDr HH _) hb); clear hn hb hf))
  go_loopw [11, 13] (fun ov iv wr => DblRel w 41 v1 v4 M (A * 1000000) ov iv wr) (fun _ iv _ => 41 - (intOf iv).toNat)
  case atStart => exact ⟨0, by omega, rfl, by rw [Nat.pow_zero, Nat.mul_one]; exact HM.out, HM.out, HY.out, HH⟩
  case round =>
    clear HH HM HY HX HQ
    obtain ⟨k, hk, rfl, hn1, hn2, hn3, hb1⟩ := hrel
    have HN := Lib.hid hn1
    have HM := Lib.hid hn2
    have HY := Lib.hid hn3
    have HB := Lib.hid hb1
    clear hn1 hn2 hn3 hb1
    rcases Nat.lt_or_ge k 41 with h | h
    · have hdec : decide ((k : Int) < 41) = true := decide_eq_true (by omega)
      have hl := dbl_lt (M := M) (k := k) (by omega) (by omega)
      go_wp2_with (go_at_call 22; (with_reducible refine (add_any HN.out HN.out (L := 200) hl hl (by omega)).mono ?_); rintro e w1 ⟨v5, rfl, hn, hb, hf⟩; replace HM := Lib.hid (HM.out.below hb); replace HY := Lib.hid (HY.out.below hb); replace HB := Lib.hid (bTr' HB.out hb); clear hb hf)
      go_roundw
      case rel => exact ⟨k + 1, by omega, by go_num, by rw [Nat.pow_succ, Nat.mul_two, Nat.mul_add]; exact hn, HM.out, HY.out, HB.out⟩
      case measure => simp [intOf]; go_num
    · have hdec : decide ((k : Int) < 41) = false := decide_eq_false (by omega)
      have hk41 : k = 41 := by omega
      rw [hk41] at HN
      clear h hk hk41
      go_wp2_with fail
      obtain ⟨vl, hvl⟩ : ∃ vl : Value, vl = u11 := ⟨_, rfl⟩
      subst hvl
      go_loopw [12, 14] (fun ov iv wr => DblRel2 w K v1 vl M (M * 2 ^ 41) (A * 1000000) ov iv wr) (fun _ iv _ => K - (intOf iv).toNat)
      case atStart => exact ⟨0, by omega, rfl, by rw [Nat.pow_zero, Nat.mul_one]; exact HY.out, HM.out, HN.out, HB.out⟩
      case round =>
        clear HY HM HN HB
        obtain ⟨k, hk, rfl, hn1, hn2, hn3, hb1⟩ := hrel
        have HN := Lib.hid hn1
        have HM := Lib.hid hn2
        have HY := Lib.hid hn3
        have HB := Lib.hid hb1
        clear hn1 hn2 hn3 hb1
        rcases Nat.lt_or_ge k K with h | h
        · have hdec : decide ((k : Int) < (K : Int)) = true := decide_eq_true (by omega)
          have hdec2 : decide ((k : Int) < 1100) = true := decide_eq_true (by omega)
          have hl := dbl_lt2 (A := A) (k := k) hA (by omega)
          go_wp2_with (go_at_call 22; (with_reducible refine (add_any HN.out HN.out (L := 200) hl hl (by omega)).mono ?_); rintro e w1 ⟨v5, rfl, hn, hb, hf⟩; replace HM := Lib.hid (HM.out.below hb); replace HY := Lib.hid (HY.out.below hb); replace HB := Lib.hid (bTr' HB.out hb); clear hb hf)
          go_roundw
          case rel => exact ⟨k + 1, by omega, by go_num, by rw [Nat.pow_succ, Nat.mul_two, Nat.mul_add]; exact hn, HM.out, HY.out, HB.out⟩
          case measure => simp [intOf]; go_num
        · have hdec : decide ((k : Int) < (K : Int)) = false := decide_eq_false (by omega)
          obtain rfl : k = K := by omega
          clear h hk
          go_wp2_with (first | (go_at_call 23; (with_reducible refine (cmp_at HY.out HN.out (L := 200) (dbl_lt hM (by omega)) (by omega) hc).mono ?_); rintro e wx ⟨rfl, q, rfl⟩; replace HB := Lib.hid (bDr' HB.out q)) | (go_at_call 11; (with_reducible refine (HO.go _).mono ?_); rintro e wx ⟨rfl, hb⟩; (first | replace HB := Lib.hid (bTr' HB.out hb) | replace HB := Lib.hid (bTr' (bDr' HB.out _) hb)); clear hb))
          go_ret
          exact ⟨by simp, HB.out⟩

theorem ppm_parts {d : Int} (h0 : d ≠ 0) (h1 : d.natAbs ≤ 17179869184) : rung (ppmB d) = (ppmL d + 987) * 4503599627370496 + ppmM d ∧ ppmB d < 18446744073709551616 ∧ decide (9223372036854775808 ≤ ppmB d) = decide (d < 0) ∧
    mag (ppmB d) = ppmM d ∧ ex (ppmB d) = ppmL d + 988 := by
  obtain ⟨b1, b2, b3⟩ := ppm_bounds d h0 h1
  have e : ppmB d = wordOf (decide (d < 0)) ((ppmL d + 987) * 4503599627370496 + ppmM d) := if_neg h0
  obtain ⟨r1, r2, r3⟩ := word_rung (decide (d < 0)) ((ppmL d + 987) * 4503599627370496 + ppmM d) (by omega)
  rw [← e] at r1 r2 r3
  have e5 : ppmB d % 4503599627370496 = ppmM d - 4503599627370496 := by
    unfold rung at r1; omega
  refine ⟨r1, r2, r3, ?_, ?_⟩
  · unfold mag
    rw [r1, if_neg (by omega), e5]; omega
  · unfold ex
    rw [r1, if_neg (by omega)]; omega

theorem ppm_off {d : Int} (h0 : d ≠ 0) (h1 : d.natAbs ≤ 17179869184) : off (ppmB d) = d.natAbs := by
  obtain ⟨b1, b2, b3⟩ := ppm_bounds d h0 h1
  obtain ⟨r1, _, _, _, _⟩ := ppm_parts h0 h1
  unfold off
  rw [r1, val_word _ _ b2 b3]
  have e : ppmM d * 2 ^ (ppmL d + 987) = d.natAbs * (15625 * 2 ^ k39) := by
    have e2 : 52 - ppmL d + (ppmL d + 987) = k39 := by unfold k39; omega
    unfold ppmM
    rw [Nat.mul_assoc _ (2 ^ _), ← Nat.pow_add, e2, Nat.mul_assoc]
  rw [e]
  unfold rq rUp
  rw [Nat.mul_div_cancel _ off_pos, Nat.mul_mod_left]
  have hp := off_pos
  rw [decide_eq_false (by omega), decide_eq_false (by omega)]
  simp
theorem ppm_same {d : Int} (h0 : d ≠ 0) (h1 : d.natAbs ≤ 17179869184) : ppmM d * 2 ^ 41 = d.natAbs * 1000000 * 2 ^ (87 - ppmL d) := by
  obtain ⟨b1, b2, b3⟩ := ppm_bounds d h0 h1
  have e2 : 52 - ppmL d + 41 = 6 + (87 - ppmL d) := by omega
  unfold ppmM
  rw [Nat.mul_assoc _ (2 ^ _), ← Nat.pow_add, e2, Nat.pow_add, ← Nat.mul_assoc]
  congr 1
  rw [Nat.mul_assoc]

theorem ppms_walk (r : Int) (h1 : -9223372036854775808 ≤ r) (h2 : r < 9223372036854775808) (w : World) :
    Calls Try.prog 4 #[.int .i64 r] w fun e w' => e = .returned (.bool true) ∧ Below w.heap.size w w' := by
  have HC := rCheck_ret r
  have HR := refRight_ret r
  by_cases hR : Right r
  · have HP := ppm_ret hR
    rw [if_pos hR] at HC
    rw [decide_eq_true hR] at HR
    unfold Right at hR
    obtain ⟨d, hd⟩ : ∃ d : Int, d = r - 2199023255552 := ⟨_, rfl⟩
    have e1 : wrap64 (r - 2199023255552) = d := by rw [← hd]; exact IntWalk.wrap64_in _ ⟨by omega, by omega⟩
    rw [← hd] at HP
    have HA : ∀ w, Calls Try.prog 20 #[.int .i64 d] w (NumPost w d.natAbs) := fun w => abs_any d (by omega) (by omega) w
    have hAl : d.natAbs ≤ 17179869184 := by omega
    by_cases h0 : d = 0
    · subst h0
      have hF : Fin64 (ppmB 0) := ⟨by decide, by decide⟩
      have HQ := parts_fin hF
      exact ppms_zero r 0 (ppmB 0) (mag (ppmB 0)) 1074 0 false made_ret HC HR HP HQ e1 (by decide) HA (small_lt _ (by omega)) (small_lt _ (by omega)) (by omega) (by omega) (by decide) (by decide) (by decide) w
    · obtain ⟨b1, b2, b3⟩ := ppm_bounds d h0 hAl
      obtain ⟨r1, r2, r3, r4, r5⟩ := ppm_parts h0 hAl
      have hF : Fin64 (ppmB d) := ⟨r2, by omega⟩
      have HQ := parts_fin hF
      rw [r3, r4, r5, show (1075 : Int) - ((ppmL d + 988 : Nat) : Int) = ((87 - ppmL d : Nat) : Int) by omega] at HQ
      have hc := Dg.cmpN_eq' (ppm_same h0 hAl)
      have hz : (d == 0) = false := by rw [beq_eq_false_iff_ne]; exact h0
      have hk0 : decide (((87 - ppmL d : Nat) : Int) < 0) = false := decide_eq_false (by omega)
      have hf5 : Fin64 4662219572839972864 := ⟨by omega, by decide⟩
      have hf6 : Fin64 13885591609694748672 := ⟨by omega, by decide⟩
      have s5 : srung 4662219572839972864 = 4662219572839972864 := by decide
      have s6 : srung 13885591609694748672 = -4662219572839972864 := by decide
      have hg := order_gt hF hf5
      have hl := order_lt hF hf6
      rw [s5] at hg
      rw [s6] at hl
      change (FloatKind.f64.format.order (ppmB d) 4662219572839972864 == some .gt) = _ at hg
      change (FloatKind.f64.format.order (ppmB d) 13885591609694748672 == some .lt) = _ at hl
      by_cases h3 : (4662219572839972864 : Int) < srung (ppmB d)
      · rw [decide_eq_true h3] at hg
        exact ppms_gt r d (ppmB d) (ppmM d) (87 - ppmL d) d.natAbs _ made_ret HC HR HP HQ e1 rfl HA (small_lt _ (by omega)) (small_lt _ (by omega)) (by omega) hAl b3 hz hk0 hc hg w
      rw [decide_eq_false h3] at hg
      by_cases h4 : srung (ppmB d) < -4662219572839972864
      · rw [decide_eq_true h4] at hl
        exact ppms_lt r d (ppmB d) (ppmM d) (87 - ppmL d) d.natAbs _ made_ret HC HR HP HQ e1 rfl HA (small_lt _ (by omega)) (small_lt _ (by omega)) (by omega) hAl b3 hz hk0 hc hg hl w
      rw [decide_eq_false h4] at hl
      have HO := of_ret r2
      have h5 : ¬ 4662219572839972864 < rung (ppmB d) := by
        unfold srung at h3 h4
        split at h3 <;> rename_i hh
        · rw [if_pos hh] at h4; omega
        · omega
      have e2 : ofE (ppmB d) = 0 := (if_neg (by omega)).trans ((if_neg (by omega)).trans (if_neg h5))
      have e3 : ofV (ppmB d) = r := by
        have : ofV (ppmB d) = 2199023255552 + soff (ppmB d) := if_neg h5
        rw [this]
        unfold soff
        rw [ppm_off h0 hAl]
        have r3' := decide_eq_decide.1 r3
        split <;> omega
      rw [e2, e3] at HO
      exact ppms_of r d (ppmB d) (ppmM d) (87 - ppmL d) d.natAbs _ made_ret HC HR HP HQ e1 rfl HA (small_lt _ (by omega)) (small_lt _ (by omega)) (by omega) hAl b3 hz hk0 hc hg hl HO w
  · rw [if_neg hR] at HC
    rw [decide_eq_false hR] at HR
    exact ppms_not r made_ret HC HR (fun w => ppm_not r HC w) w

end Go.Proofs.Ytfohfpeeghnocab
