/- WidePowers: a product with a power of two is the number moved by as much. -/
import Derived.Test.YtfohfpeeghnocaaSt
namespace Go.Proofs.Ytfohfpeeghnocaa
open Go.RowKit

set_option maxHeartbeats 1000000 in
theorem powers_zero (a n P p1 p0 : Int) 
    (HP : Ret 21 #[.int .u64 a, .int .u64 P] (.agg #[.int .u64 p1, .int .u64 p0]))
    (HQ : Ret 21 #[.int .u64 P, .int .u64 a] (.agg #[.int .u64 p1, .int .u64 p0]))
    (H15 : Ret 21 #[.int .u64 3, .int .u64 5] (.agg #[.int .u64 0, .int .u64 15]))
    (em : bits BinOp.and IntKind.i64 n 63 = 0) (eP : P = 1) (e0 : p0 = a) (e1 : p1 = 0) (h0 : 0 ≤ a) (h1 : a < 18446744073709551616)
    (w : World) :
    Calls Try.prog 11 #[.int .u64 a, .int .i64 n] w fun e w' => e = .returned (.bool true) ∧ Below w.heap.size w w' := by
  subst eP e0 e1
  have HH := St.start w
  go_enter Try.func11, Try.ntmps11
  go_wp2_with (first
    | (go_at_call 21; (with_reducible refine (HP.go _).mono ?_); rintro e wx ⟨rfl, hb⟩; (first | replace HH := HH.call hb | replace HH := HH.drew.call hb | replace HH := (HH.alloc2 _ _ _).call hb | replace HH := (HH.alloc2 _ _ _).drew.call hb | replace HH := ((HH.alloc2 _ _ _).alloc2 _ _ _).call hb); clear hb; (try clear ff); have ff := HH.facts; simp [Facts] at ff)
    | (go_at_call 21; (with_reducible refine (HQ.go _).mono ?_); rintro e wx ⟨rfl, hb⟩; (first | replace HH := HH.call hb | replace HH := HH.drew.call hb | replace HH := (HH.alloc2 _ _ _).call hb | replace HH := (HH.alloc2 _ _ _).drew.call hb | replace HH := ((HH.alloc2 _ _ _).alloc2 _ _ _).call hb); clear hb; (try clear ff); have ff := HH.facts; simp [Facts] at ff)
    | (go_at_call 21; (with_reducible refine (H15.go _).mono ?_); rintro e wx ⟨rfl, hb⟩; (first | replace HH := HH.call hb | replace HH := HH.drew.call hb | replace HH := (HH.alloc2 _ _ _).call hb | replace HH := (HH.alloc2 _ _ _).drew.call hb | replace HH := ((HH.alloc2 _ _ _).alloc2 _ _ _).call hb); clear hb; (try clear ff); have ff := HH.facts; simp [Facts] at ff))
  go_ret
  exact ⟨rfl, HH.below⟩

set_option maxHeartbeats 1000000 in
theorem powers_pos (a n P p1 p0 : Int) (M : Nat)
    (HP : Ret 21 #[.int .u64 a, .int .u64 P] (.agg #[.int .u64 p1, .int .u64 p0]))
    (HQ : Ret 21 #[.int .u64 P, .int .u64 a] (.agg #[.int .u64 p1, .int .u64 p0]))
    (H15 : Ret 21 #[.int .u64 3, .int .u64 5] (.agg #[.int .u64 0, .int .u64 15]))
    (em : bits BinOp.and IntKind.i64 n 63 = (M : Int)) (hm0 : 0 < (M : Int)) (hm1 : (M : Int) ≤ 63) (eP : IntKind.u64.wrap (2 ^ M) = P) (e0 : IntKind.u64.wrap (a * 2 ^ M) = p0) (e1 : a / 2 ^ (64 - M) = p1)
    (w : World) :
    Calls Try.prog 11 #[.int .u64 a, .int .i64 n] w fun e w' => e = .returned (.bool true) ∧ Below w.heap.size w w' := by

  have HH := St.start w
  go_enter Try.func11, Try.ntmps11
  go_wp2_with (first
    | (go_at_call 21; (with_reducible refine (HP.go _).mono ?_); rintro e wx ⟨rfl, hb⟩; (first | replace HH := HH.call hb | replace HH := HH.drew.call hb | replace HH := (HH.alloc2 _ _ _).call hb | replace HH := (HH.alloc2 _ _ _).drew.call hb | replace HH := ((HH.alloc2 _ _ _).alloc2 _ _ _).call hb); clear hb; (try clear ff); have ff := HH.facts; simp [Facts] at ff)
    | (go_at_call 21; (with_reducible refine (HQ.go _).mono ?_); rintro e wx ⟨rfl, hb⟩; (first | replace HH := HH.call hb | replace HH := HH.drew.call hb | replace HH := (HH.alloc2 _ _ _).call hb | replace HH := (HH.alloc2 _ _ _).drew.call hb | replace HH := ((HH.alloc2 _ _ _).alloc2 _ _ _).call hb); clear hb; (try clear ff); have ff := HH.facts; simp [Facts] at ff)
    | (go_at_call 21; (with_reducible refine (H15.go _).mono ?_); rintro e wx ⟨rfl, hb⟩; (first | replace HH := HH.call hb | replace HH := HH.drew.call hb | replace HH := (HH.alloc2 _ _ _).call hb | replace HH := (HH.alloc2 _ _ _).drew.call hb | replace HH := ((HH.alloc2 _ _ _).alloc2 _ _ _).call hb); clear hb; (try clear ff); have ff := HH.facts; simp [Facts] at ff))
  go_ret
  exact ⟨rfl, HH.below⟩

theorem and63 (n : Int) : ∃ M : Nat, M ≤ 63 ∧ bits BinOp.and IntKind.i64 n 63 = (M : Int) := by
  refine ⟨(BitVec.ofInt 64 n).toNat % 64, by omega, ?_⟩
  show IntKind.i64.wrap ((BitVec.ofInt 64 n &&& BitVec.ofInt 64 63).toNat : Int) = _
  rw [BitVec.toNat_and, show (BitVec.ofInt 64 63).toNat = 63 from by decide, show (BitVec.ofInt 64 n).toNat &&& 63 = (BitVec.ofInt 64 n).toNat % 64 from Nat.and_two_pow_sub_one_eq_mod _ 6]
  exact IntWalk.i64_in _ (by omega)

theorem powers_walk (a n : Int) (h1 : 0 ≤ a) (h2 : a < 18446744073709551616) (_h3 : -9223372036854775808 ≤ n) (_h4 : n < 9223372036854775808) (w : World) :
    Calls Try.prog 11 #[.int .u64 a, .int .i64 n] w fun e w' => e = .returned (.bool true) ∧ Below w.heap.size w w' := by
  obtain ⟨M, hM, em⟩ := and63 n
  have H15 : Ret 21 #[.int .u64 3, .int .u64 5] (.agg #[.int .u64 0, .int .u64 15]) := fun w => wMul 3 5 (by omega) (by omega) (by omega) (by omega) w
  rcases Nat.eq_zero_or_pos M with h0 | h0
  · subst h0
    refine powers_zero a n 1 0 a (fun w => ?_) (fun w => ?_) H15 em rfl rfl rfl h1 h2 w
    · have := wMul a 1 h1 (by omega) h2 (by omega) w
      rw [Int.mul_one, Int.ediv_eq_zero_of_lt h1 h2, Int.emod_eq_of_lt h1 h2] at this
      exact this
    · have := wMul 1 a (by omega) h1 (by omega) h2 w
      rw [Int.one_mul, Int.ediv_eq_zero_of_lt h1 h2, Int.emod_eq_of_lt h1 h2] at this
      exact this
  · obtain ⟨A, rfl⟩ := Int.eq_ofNat_of_zero_le h1
    have hp : 0 < 2 ^ M := Nat.pow_pos (by omega)
    have hp63 : 2 ^ M ≤ 2 ^ 63 := Nat.pow_le_pow_right (by omega) hM
    have hp64 : 2 ^ (64 - M) * 2 ^ M = 18446744073709551616 := by rw [← Nat.pow_add, show 64 - M + M = 64 by omega]
    have hpz : ((2 : Int) ^ M) = ((2 ^ M : Nat) : Int) := by simp
    have hpz2 : ((2 : Int) ^ (64 - M)) = ((2 ^ (64 - M) : Nat) : Int) := by simp
    have e1 : A / 2 ^ (64 - M) = A * 2 ^ M / 18446744073709551616 := by rw [← hp64, Nat.mul_div_mul_right _ _ hp]
    generalize hP : 2 ^ M = P at *
    have hPle : P < 18446744073709551616 := by omega
    refine powers_pos (A : Int) n (P : Int) (((A : Int) * (P : Int)) / 18446744073709551616) (((A : Int) * (P : Int)) % 18446744073709551616) M (fun w => ?_) (fun w => ?_) H15 em (by omega) (by omega) ?_ ?_ ?_ w
    · exact wMul _ _ (by omega) (by omega) (by omega) (by omega) w
    · have := wMul (P : Int) (A : Int) (by omega) (by omega) (by omega) (by omega) w
      rw [Int.mul_comm] at this
      exact this
    · rw [hpz]; exact wrapN _ hPle
    · rw [hpz, IntKind.wrap_u64]
    · rw [hpz2, ← Int.natCast_ediv, e1, ← Int.natCast_mul]; rfl

end Go.Proofs.Ytfohfpeeghnocaa
