/- The reference's phase, bit, Pieces. -/
import Derived.Test.YtlpijhopllhccaaPoRef
namespace Go.Proofs.Ytlpijhopllhccaa
open Go.RowKit Go.Joins

def PhRel (b c t m : Int) (sl : Value) (w : World) (pv : Value) (wr : World) : Prop := ∃ p, pv = .int .i64 p ∧ (p = t ∨ p = m) ∧ RB wr w.heap.size b c sl ∧ Below w.heap.size w wr
theorem phase_any (b c : Int) (sl : Value) (x : Int) (hb0 : 0 ≤ b) (hb1 : b ≤ 1099511627776) (hc : long c) (hx : inT x) : Ret 44 #[LV b c sl, .int .i64 x] (.int .i64 (gone b c x)) := fun w => by
  have hx1 := hx.1
  have hx2 := hx.2
  have hc1 := hc.1
  have hc2 := hc.2
  obtain ⟨d, hd⟩ : ∃ d, x - b = d := ⟨_, rfl⟩
  have w1 : wrap64 (x - b) = d := by unfold wrap64; omega
  have w2 : (c == 0) = false := by rw [beq_eq_false_iff_ne]; omega
  have w22 : ¬ c = 0 := by omega
  have ht := Int.tmod_eq_emod (a := d) (b := c)
  have hq := Int.mul_tdiv_add_tmod d c
  have hqn := Int.natAbs_tdiv_le_natAbs d c
  have hm0 := Int.emod_nonneg d (show c ≠ 0 by omega)
  have hm1 := Int.emod_lt_of_pos d (show 0 < c by omega)
  have hgo : gone b c x = d % c := by unfold gone; rw [hd]
  obtain ⟨m, hm⟩ : ∃ m, d % c = m := ⟨_, rfl⟩
  obtain ⟨t, hT⟩ : ∃ t, d.tmod c = t := ⟨_, rfl⟩
  obtain ⟨q, hQ⟩ : ∃ q, d.tdiv c = q := ⟨_, rfl⟩
  rw [hgo]
  rw [hm] at hm0 hm1 ht ⊢
  rw [hT] at ht hq
  rw [hQ, Int.mul_comm] at hq
  rw [hQ] at hqn
  have hna : (c.natAbs : Int) = c := by omega
  have w3 : wrap64 q = q := by unfold wrap64; omega
  have htm : (0 ≤ t ∧ t = m) ∨ (t < 0 ∧ t + c = m) := by split at ht <;> omega
  obtain ⟨s, hs⟩ : ∃ s, q * c = s := ⟨_, rfl⟩
  rw [hs] at hq
  have w4 : wrap64 s = s := by unfold wrap64; omega
  have w5 : wrap64 (d - s) = t := by unfold wrap64; omega
  have w6 : t < 0 → wrap64 (t + c) = m := fun h => by unfold wrap64; omega
  have HTM := Lib.hid htm
  have HM0 := Lib.hid hm0
  have HW6 := Lib.hid w6
  obtain ⟨l0, l1, l2⟩ := (RB.new w b c sl).cells
  clear hx1 hx2 hc1 hc2 hd ht hm0 hm1 hgo hm hna hb0 hb1 hc hx hq hqn htm w6
  go_enter Try.func44, Try.ntmps44
  go_wp2_with fail
  go_loopw [7] (fun pv wr => PhRel b c t m sl w pv wr) (fun pv _ => if intOf pv < 0 then 1 else 0)
  case atStart => exact ⟨t, by rw [w5], .inl rfl, RB.new w _ _ _, bAl (bRef w) _⟩
  case round =>
    clear l0 l1 l2
    obtain ⟨p, rfl, hp, hlb, hb⟩ := hrel
    have HB := Lib.hid hb
    have HLB := Lib.hid hlb
    obtain ⟨l0, l1, l2⟩ := hlb.cells
    clear hb hlb
    by_cases hn : p < 0
    · have e1 : decide (p < 0) = true := decide_eq_true hn
      have hpt : p = t := by have := HM0.out; omega
      subst hpt
      have w7 : Hid (wrap64 (p + c) = m) := Lib.hid (HW6.out hn)
      have HN := Lib.hid hn
      clear hp hn
      go_wp2_with fail
      go_roundw
      case rel => exact ⟨m, by rw [w7.out], .inr rfl, HLB.out, HB.out⟩
      case measure => have h1 := HN.out; have h2 := HM0.out; have h3 : ¬ m < 0 := (by omega); simp [intOf, w7.out, h1, h3]
    · have e1 : decide (p < 0) = false := decide_eq_false hn
      have hpm : p = m := by have := HTM.out; omega
      subst hpm
      clear hp hn
      go_wp2_with fail
      go_ret
      exact ⟨rfl, HB.out⟩

def BitRel (s : Int) (G : Nat) (w : World) (sv iv : Value) (wr : World) : Prop := ∃ k : Nat, k ≤ G ∧ iv = .int .i64 (k : Int) ∧ sv = .int .i64 (s / ((2 ^ k : Nat) : Int)) ∧ wr = w
theorem bit_any (s : Int) (G : Nat) (h0 : 0 ≤ s) (h1 : s < 9223372036854775808) (hG : G < 60) : RetQ 46 #[.int .i64 s, .int .i64 (G : Int)] (.bool (decide (s / ((2 ^ G : Nat) : Int) % 2 = 1))) := fun w => by
  have HS := Lib.hid h0
  have HS1 := Lib.hid h1
  clear h0 h1
  go_enter Try.func46, Try.ntmps46
  go_wp2_with fail
  go_loopw [0, 5] (fun sv iv wr => BitRel s G w sv iv wr) (fun _ iv _ => G - (intOf iv).toNat)
  case atStart => exact ⟨0, by omega, rfl, by simp, rfl⟩
  case round =>
    obtain ⟨k, hk, rfl, rfl, rfl⟩ := hrel
    have hp : (0 : Int) < ((2 ^ k : Nat) : Int) := by have := Nat.two_pow_pos k; omega
    have hz0 : 0 ≤ s / ((2 ^ k : Nat) : Int) := Int.ediv_nonneg HS.out (by omega)
    have hz1 : s / ((2 ^ k : Nat) : Int) ≤ s := Int.ediv_le_self _ HS.out
    have hnext : s / ((2 ^ (k + 1) : Nat) : Int) = s / ((2 ^ k : Nat) : Int) / 2 := by
      rw [Nat.pow_succ, Int.natCast_mul, Int.ediv_ediv_of_nonneg (by omega)]; rfl
    have HG : k = G → Hid (s / ((2 ^ G : Nat) : Int) = s / ((2 ^ k : Nat) : Int)) := fun e => Lib.hid (by rw [e])
    obtain ⟨z, hz⟩ : ∃ z, s / ((2 ^ k : Nat) : Int) = z := ⟨_, rfl⟩
    rw [hz] at hz0 hz1 hnext HG ⊢
    have hs1 := HS1.out
    have t1 : z.tdiv 2 = z / 2 := Int.tdiv_eq_ediv_of_nonneg hz0
    have t2 : z.tmod 2 = z % 2 := Int.tmod_eq_emod_of_nonneg hz0
    have t3 : wrap64 (z / 2) = z / 2 := by unfold wrap64; omega
    have t4 : wrap64 (z % 2) = z % 2 := by unfold wrap64; omega
    rcases Nat.lt_or_ge k G with g | g
    · have hd : decide ((k : Int) < (G : Int)) = true := decide_eq_true (by omega)
      have HN := Lib.hid hnext
      clear hp hz0 hz1 hnext hz HG hs1
      go_wp2_with fail
      go_roundw
      case rel => exact ⟨k + 1, by omega, by go_num, by rw [HN.out]; first | rfl | rw [t3] | rw [t1] | rw [t1, t3], rfl⟩
      case measure => simp [intOf]; omega
    · have hkG : k = G := by omega
      have hd : decide ((k : Int) < (G : Int)) = false := decide_eq_false (by omega)
      have HE := HG hkG
      clear hp hz0 hz1 hnext hz HG hs1 hkG
      go_wp2_with fail
      go_ret
      refine ⟨?_, rfl⟩
      rw [HE.out]
      first | rfl | (congr 2; rw [Bool.eq_iff_iff, beq_iff_eq, decide_eq_true_eq]; first | rw [t2] | rw [t2, t4] | skip)

end Go.Proofs.Ytlpijhopllhccaa
