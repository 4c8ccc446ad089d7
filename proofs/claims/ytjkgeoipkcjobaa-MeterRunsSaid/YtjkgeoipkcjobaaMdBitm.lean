/- Plain arithmetic: a quotient bit by bit. -/
import Derived.Test.YtjkgeoipkcjobaaMdNum
namespace Go.Proofs.Ytjkgeoipkcjobaa.Dgs
namespace Dg

theorem pow16 (i : Nat) : 65536 ^ i = 2 ^ (16 * i) := by rw [Nat.pow_mul]

theorem digit_eq {xs : List Nat} (hs : Small xs) (i : Nat) : xs.getD i 0 = val xs / 65536 ^ i % 65536 := by
  have hp := pow_pos i
  rcases Nat.lt_or_ge i xs.length with h | h
  · have e := val_split xs i (by omega)
    rw [drop_eq_cons xs i h, val_cons] at e
    have hl := val_lt (hs.take i)
    rw [List.length_take, Nat.min_eq_left (by omega)] at hl
    have hd := hs.getD i
    rw [e, Nat.add_mul_div_left _ _ hp, Nat.div_eq_of_lt hl, Nat.zero_add, Nat.add_mul_mod_self_left, Nat.mod_eq_of_lt hd]
  · have hl := val_lt hs
    have hle : 65536 ^ xs.length ≤ 65536 ^ i := Nat.pow_le_pow_right (by omega) h
    rw [List.getD_eq_getElem?_getD, List.getElem?_eq_none h, Nat.div_eq_of_lt (by omega)]; rfl

theorem bit_eq {xs : List Nat} (hs : Small xs) (i bit : Nat) (hb : bit < 16) : val xs / 2 ^ (16 * i + bit) % 2 = xs.getD i 0 / 2 ^ bit % 2 := by
  have h2 : 65536 = 2 ^ bit * 2 ^ (16 - bit) := by rw [← Nat.pow_add, show bit + (16 - bit) = 16 by omega]
  have h3 : 2 ∣ 2 ^ (16 - bit) := ⟨2 ^ (15 - bit), by rw [← Nat.pow_succ', show (15 - bit).succ = 16 - bit by omega]⟩
  rw [digit_eq hs i, Nat.pow_add, ← pow16, ← Nat.div_div_eq_div_mul]
  generalize val xs / 65536 ^ i = y
  conv => rhs; rw [h2]
  rw [Nat.mod_mul_right_div_self, Nat.mod_mod_of_dvd _ h3]

theorem shift_step {a p t : Nat} (ht : t = a / 2 ^ p % 2) : a / 2 ^ p = 2 * (a / 2 ^ (p + 1)) + t := by
  have : a / 2 ^ (p + 1) = a / 2 ^ p / 2 := by rw [Nat.pow_succ, Nat.div_div_eq_div_mul]
  omega

theorem quo_digit {qs : List Nat} (hs : Small qs) {Q i bit : Nat} (hb : bit < 16) (hv : val qs = Q * 2 ^ (16 * i + bit + 1)) : qs.getD i 0 + 2 ^ bit < 65536 := by
  have hp := pow_pos i
  have h2 : 65536 = 2 ^ (bit + 1) * 2 ^ (15 - bit) := by rw [← Nat.pow_add, show bit + 1 + (15 - bit) = 16 by omega]
  have h3 : 2 ^ (bit + 1) = 2 * 2 ^ bit := Nat.pow_succ'
  have e : val qs / 65536 ^ i = 2 ^ (bit + 1) * Q := by
    rw [hv, show 16 * i + bit + 1 = 16 * i + (bit + 1) by omega, Nat.pow_add, ← pow16, Nat.mul_left_comm, Nat.mul_div_cancel_left _ hp, Nat.mul_comm]
  have h4 := Nat.mod_lt Q (show 0 < 2 ^ (15 - bit) from Nat.pow_pos (by omega))
  rw [digit_eq hs i, e]
  have h5 : 2 ^ (bit + 1) * Q % 65536 = 2 ^ (bit + 1) * (Q % 2 ^ (15 - bit)) := by
    conv => lhs; rw [h2]
    exact Nat.mul_mod_mul_left _ _ _
  rw [h5]
  have h6 : 2 ^ (bit + 1) * (Q % 2 ^ (15 - bit) + 1) ≤ 2 ^ (bit + 1) * 2 ^ (15 - bit) := Nat.mul_le_mul_left _ h4
  rw [Nat.mul_add, Nat.mul_one, ← h2] at h6
  have h7 : 0 < 2 ^ bit := Nat.pow_pos (by omega)
  omega

theorem quo_set {qs : List Nat} {Q i bit : Nat} (hi : i < qs.length) (hv : val qs = Q * 2 ^ (16 * i + bit + 1)) : val (qs.set i (qs.getD i 0 + 2 ^ bit)) = (2 * Q + 1) * 2 ^ (16 * i + bit) := by
  have h := val_set qs i (qs.getD i 0 + 2 ^ bit) hi
  have e : 65536 ^ i * 2 ^ bit = 2 ^ (16 * i + bit) := by rw [pow16, ← Nat.pow_add]
  rw [Nat.mul_add, e, hv, Nat.pow_succ'] at h
  generalize 65536 ^ i * qs.getD i 0 = z at *
  have e2 : Q * (2 * 2 ^ (16 * i + bit)) = 2 * Q * 2 ^ (16 * i + bit) := by rw [← Nat.mul_assoc, Nat.mul_comm Q 2]
  rw [e2] at h
  rw [Nat.add_mul, Nat.one_mul]
  omega

theorem quo_keep {v Q p : Nat} (hv : v = Q * 2 ^ (p + 1)) : v = (2 * Q) * 2 ^ p := by
  rw [hv, Nat.pow_succ', ← Nat.mul_assoc, Nat.mul_comm Q 2]

end Dg
end Go.Proofs.Ytjkgeoipkcjobaa.Dgs
