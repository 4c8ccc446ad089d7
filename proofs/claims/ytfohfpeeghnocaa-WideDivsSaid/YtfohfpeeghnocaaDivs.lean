/- WideDivs: how often any number goes into any other one, and what is left, held against the digits. -/
import Derived.Test.YtfohfpeeghnocaaSame
import Derived.Test.YtfohfpeeghnocaaSt
import Derived.Test.YtfohfpeeghnocaaMd
namespace Go.Proofs.Ytfohfpeeghnocaa
open Go.RowKit

set_option maxHeartbeats 1000000 in
theorem divs_zero (a1 a0 : Int)
    (H7 : Ret 12 #[.int .u64 7] (.agg #[.int .u64 0, .int .u64 7]))
    (HD : Ret 24 #[.agg #[.int .u64 0, .int .u64 7], .int .u64 2] (.tuple #[.agg #[.int .u64 0, .int .u64 3], .int .u64 1, .int .i64 0]))
    (HE : Ret 24 #[.agg #[.int .u64 a1, .int .u64 a0], .int .u64 0] (.tuple #[.agg #[.int .u64 0, .int .u64 0], .int .u64 0, .int .i64 11]))
    (w : World) :
    Calls Try.prog 5 #[.agg #[.int .u64 a1, .int .u64 a0], .int .u64 0] w fun e w' => e = .returned (.bool true) ∧ Below w.heap.size w w' := by
  have HH := (St.start w).alloc2 (.int .u64 a1) (.int .u64 a0) 24
  go_enter Try.func5, Try.ntmps5
  go_wp2_with (first
    | (go_at_call 12; (with_reducible refine (H7.go _).mono ?_); rintro e wx ⟨rfl, hb⟩; (first | replace HH := HH.call hb | replace HH := HH.drew.call hb | replace HH := (HH.alloc2 _ _ _).call hb | replace HH := (HH.alloc2 _ _ _).drew.call hb | replace HH := ((HH.alloc2 _ _ _).alloc2 _ _ _).call hb); clear hb; (try clear ff); have ff := HH.facts; simp [Facts] at ff)
    | (go_at_call 24; (with_reducible refine (HD.go _).mono ?_); rintro e wx ⟨rfl, hb⟩; (first | replace HH := HH.call hb | replace HH := HH.drew.call hb | replace HH := (HH.alloc2 _ _ _).call hb | replace HH := (HH.alloc2 _ _ _).drew.call hb | replace HH := ((HH.alloc2 _ _ _).alloc2 _ _ _).call hb); clear hb; (try clear ff); have ff := HH.facts; simp [Facts] at ff)
    | (go_at_call 24; (with_reducible refine (HE.go _).mono ?_); rintro e wx ⟨rfl, hb⟩; (first | replace HH := HH.call hb | replace HH := HH.drew.call hb | replace HH := (HH.alloc2 _ _ _).call hb | replace HH := (HH.alloc2 _ _ _).drew.call hb | replace HH := ((HH.alloc2 _ _ _).alloc2 _ _ _).call hb); clear hb; (try clear ff); have ff := HH.facts; simp [Facts] at ff))
  go_ret
  exact ⟨rfl, (HH.alloc2 _ _ _).below⟩

set_option maxHeartbeats 2000000 in
theorem divs_some (a1 a0 b q1 q0 l n : Nat) (hb0 : ((b : Int) == 0) = false) (hbp : 0 < b) (ha1 : a1 < 18446744073709551616) (ha0 : a0 < 18446744073709551616) (hbl : b < 18446744073709551616) (hq1 : q1 < 18446744073709551616) (hq0 : q0 < 18446744073709551616) (hl : l < 18446744073709551616)
    (hn : a1 * 18446744073709551616 + a0 = n) (hq : q1 * 18446744073709551616 + q0 = n / b) (hr : l = n % b) (hnb : n < 65536 ^ 8)
    (H7 : Ret 12 #[.int .u64 7] (.agg #[.int .u64 0, .int .u64 7]))
    (HD : Ret 24 #[.agg #[.int .u64 0, .int .u64 7], .int .u64 2] (.tuple #[.agg #[.int .u64 0, .int .u64 3], .int .u64 1, .int .i64 0]))
    (HE : Ret 24 #[.agg #[.int .u64 (a1 : Int), .int .u64 (a0 : Int)], .int .u64 (b : Int)] (.tuple #[.agg #[.int .u64 (q1 : Int), .int .u64 (q0 : Int)], .int .u64 (l : Int), .int .i64 0]))
    (w : World) :
    Calls Try.prog 5 #[.agg #[.int .u64 (a1 : Int), .int .u64 (a0 : Int)], .int .u64 (b : Int)] w fun e w' => e = .returned (.bool true) ∧ Below w.heap.size w w' := by
  have HH := (St.start w).alloc2 (.int .u64 (a1 : Int)) (.int .u64 (a0 : Int)) 24
  have HP := Lib.hid (fun W => hn ▸ pair_any a1 a0 ha1 ha0 W)
  have HQ := Lib.hid hq
  have HR := Lib.hid hr
  have HNB := Lib.hid hnb
  clear hn hq hr hnb
  go_enter Try.func5, Try.ntmps5
  go_wp2_with (first
    | (go_at_call 12; (with_reducible refine (H7.go _).mono ?_); rintro e wx ⟨rfl, hb⟩; (first | replace HH := HH.call hb | replace HH := HH.drew.call hb | replace HH := (HH.alloc2 _ _ _).call hb | replace HH := (HH.alloc2 _ _ _).drew.call hb | replace HH := ((HH.alloc2 _ _ _).alloc2 _ _ _).call hb); clear hb; (try clear ff); have ff := HH.facts; simp [Facts] at ff)
    | (go_at_call 24; (with_reducible refine (HD.go _).mono ?_); rintro e wx ⟨rfl, hb⟩; (first | replace HH := HH.call hb | replace HH := HH.drew.call hb | replace HH := (HH.alloc2 _ _ _).call hb | replace HH := (HH.alloc2 _ _ _).drew.call hb | replace HH := ((HH.alloc2 _ _ _).alloc2 _ _ _).call hb); clear hb; (try clear ff); have ff := HH.facts; simp [Facts] at ff)
    | (go_at_call 24; (with_reducible refine (HE.go _).mono ?_); rintro e wx ⟨rfl, hb⟩; (first | replace HH := HH.call hb | replace HH := HH.drew.call hb | replace HH := (HH.alloc2 _ _ _).call hb | replace HH := (HH.alloc2 _ _ _).drew.call hb | replace HH := ((HH.alloc2 _ _ _).alloc2 _ _ _).call hb); clear hb; (try clear ff); have ff := HH.facts; simp [Facts] at ff)
    | (go_at_call 13; (with_reducible refine (HP.out _).mono ?_); rintro e wx ⟨vp, rfl, hnp, hb, hfp⟩; have NP := Lib.hid hnp; clear hnp hfp; (first | replace HH := HH.call hb | replace HH := HH.drew.call hb | replace HH := (HH.alloc2 _ _ _).call hb | replace HH := (HH.alloc2 _ _ _).drew.call hb | replace HH := ((HH.alloc2 _ _ _).alloc2 _ _ _).call hb); clear hb; (try clear ff); have ff := HH.facts; simp [Facts] at ff)
    | (go_at_call 23; (with_reducible refine (of_any b hbl _).mono ?_); rintro e wx ⟨vo, rfl, hno, hb, hfo⟩; have NO := Lib.hid hno; replace NP := Lib.hid (NP.out.below hb); clear hno hfo; (first | replace HH := HH.call hb | replace HH := HH.drew.call hb | replace HH := (HH.alloc2 _ _ _).call hb | replace HH := (HH.alloc2 _ _ _).drew.call hb | replace HH := ((HH.alloc2 _ _ _).alloc2 _ _ _).call hb); clear hb; (try clear ff); have ff := HH.facts; simp [Facts] at ff)
    | (go_at_call 25; (with_reducible refine (div_any NP.out NO.out hbp (L := 8) HNB.out (by omega) (by omega)).mono ?_); rintro e wx ⟨vq, vr, rfl, hnq, hnr, hb⟩; have NQ := Lib.hid hnq; have NR := Lib.hid hnr; clear hnq hnr; (first | replace HH := HH.call hb | replace HH := HH.drew.call hb | replace HH := (HH.alloc2 _ _ _).call hb | replace HH := (HH.alloc2 _ _ _).drew.call hb | replace HH := ((HH.alloc2 _ _ _).alloc2 _ _ _).call hb); clear hb; (try clear ff); have ff := HH.facts; simp [Facts] at ff)
    | (go_at_call 16; (with_reducible refine (same_any q1 q0 _ _ hq1 hq0 _ NQ.out HQ.out).mono ?_); rintro e wx ⟨rfl, hb⟩; replace NR := Lib.hid (NR.out.below hb); (first | replace HH := HH.call hb | replace HH := HH.drew.call hb | replace HH := (HH.alloc2 _ _ _).call hb | replace HH := (HH.alloc2 _ _ _).drew.call hb | replace HH := ((HH.alloc2 _ _ _).alloc2 _ _ _).call hb); clear hb; (try clear ff); have ff := HH.facts; simp [Facts] at ff)
    | (go_at_call 23; (with_reducible refine (of_any l hl _).mono ?_); rintro e wx ⟨vl, rfl, hnl, hb, hfl⟩; have NL := Lib.hid hnl; replace NR := Lib.hid (NR.out.below hb); clear hnl hfl; (first | replace HH := HH.call hb | replace HH := HH.drew.call hb | replace HH := (HH.alloc2 _ _ _).call hb | replace HH := (HH.alloc2 _ _ _).drew.call hb | replace HH := ((HH.alloc2 _ _ _).alloc2 _ _ _).call hb); clear hb; (try clear ff); have ff := HH.facts; simp [Facts] at ff)
    | (go_at_call 17; (with_reducible refine (cmp_at NL.out NR.out (L := 8) (by omega) (by omega) (Dg.cmpN_eq' HR.out)).mono ?_); rintro e wx ⟨rfl, q9, rfl⟩))
  go_ret
  exact ⟨rfl, bDr HH.below _⟩

theorem divs_walk (a1 a0 b : Int) (h1 : 0 ≤ a1) (k1 : a1 < 18446744073709551616) (h2 : 0 ≤ a0) (k2 : a0 < 18446744073709551616) (h3 : 0 ≤ b) (k3 : b < 18446744073709551616) (w : World) :
    Calls Try.prog 5 #[.agg #[.int .u64 a1, .int .u64 a0], .int .u64 b] w fun e w' => e = .returned (.bool true) ∧ Below w.heap.size w w' := by
  have H7 : Ret 12 #[.int .u64 7] (.agg #[.int .u64 0, .int .u64 7]) := fun w => wOf 7 w
  have HD : Ret 24 #[.agg #[.int .u64 0, .int .u64 7], .int .u64 2] (.tuple #[.agg #[.int .u64 0, .int .u64 3], .int .u64 1, .int .i64 0]) := fun w => wDiv 0 7 2 (by omega) (by omega) (by omega) (by omega) (by omega) (by omega) w
  rcases Int.lt_or_le 0 b with hb | hb
  · have hbz : (b == 0) = false := by rw [beq_eq_false_iff_ne]; omega
    obtain ⟨a1, rfl⟩ := Int.eq_ofNat_of_zero_le h1
    obtain ⟨a0, rfl⟩ := Int.eq_ofNat_of_zero_le h2
    obtain ⟨b, rfl⟩ := Int.eq_ofNat_of_zero_le h3
    have hbp : 0 < b := by omega
    obtain ⟨n, hn⟩ : ∃ n, n = a1 * 18446744073709551616 + a0 := ⟨_, rfl⟩
    have e1 : n / 18446744073709551616 = a1 := by omega
    have e2 : n % 18446744073709551616 = a0 := by omega
    have hnb : n < 340282366920938463463374607431768211456 := by omega
    have HE := div_ret hnb hbp (by omega)
    rw [e1, e2] at HE
    have hq := Nat.div_le_self n b
    have hl := Nat.mod_lt n hbp
    generalize hqq : n / b = q at *
    generalize hll : n % b = l at *
    exact divs_some a1 a0 b (q / 18446744073709551616) (q % 18446744073709551616) l n hbz hbp (by omega) (by omega) (by omega) (by omega) (by omega) (by omega) hn.symm (by rw [hqq]; omega) hll.symm (by omega) H7 HD HE w
  · have e : b = 0 := by omega
    subst e
    exact divs_zero a1 a0 H7 HD (fun w => wDiv_zero a1 a0 w) w

end Go.Proofs.Ytfohfpeeghnocaa
