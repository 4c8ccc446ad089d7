/- Lanes in plain numbers: which way Pick goes, how many wait in all. -/
import Derived.Test.YtllmfkodgalklaaPoLnLaw
import Derived.Lib.BitFns
namespace Go.Proofs.Ytllmfkodgalklaa
open Go.RowKit Go.Joins

theorem and_low (n : Int) (k : Nat) (hk : k < 63) : bits .and .i64 n ((2 ^ k - 1 : Nat) : Int) = n % ((2 ^ k : Nat) : Int) := by
  have hp : 2 ^ k ≤ 2 ^ 62 := Nat.pow_le_pow_right (by omega) (by omega)
  have hpos := Nat.two_pow_pos k
  have hm : (BitVec.ofInt 64 ((2 ^ k - 1 : Nat) : Int)).toNat = 2 ^ k - 1 := by
    rw [BitVec.toNat_ofInt]; omega
  have hd : (2 ^ k : Nat) ∣ 2 ^ 64 := Nat.pow_dvd_pow 2 (by omega)
  have key : (BitVec.ofInt 64 n &&& BitVec.ofInt 64 ((2 ^ k - 1 : Nat) : Int)).toNat = (n % ((2 ^ 64 : Nat) : Int)).toNat % 2 ^ k := by
    rw [BitVec.toNat_and, BitVec.toNat_ofInt, hm, Nat.and_two_pow_sub_one_eq_mod]
  show IntKind.i64.wrap ((BitVec.ofInt 64 n &&& BitVec.ofInt 64 ((2 ^ k - 1 : Nat) : Int)).toNat : Nat) = _
  rw [key, IntKind.wrap_i64]
  have e : (((n % ((2 ^ 64 : Nat) : Int)).toNat % 2 ^ k : Nat) : Int) = n % ((2 ^ k : Nat) : Int) := by
    rw [Int.natCast_emod, Int.toNat_of_nonneg (Int.emod_nonneg _ (by simp))]
    exact Int.emod_emod_of_dvd _ (Int.natCast_dvd_natCast.2 hd)
  rw [e]
  have h1 := Int.emod_nonneg n (show ((2 ^ k : Nat) : Int) ≠ 0 by omega)
  have h2 := Int.emod_lt_of_pos n (show (0 : Int) < ((2 ^ k : Nat) : Int) by omega)
  generalize n % ((2 ^ k : Nat) : Int) = z at *
  omega
theorem low10 (n : Int) : bits .and .i64 n 1023 = n % 1024 := and_low n 10 (by omega)
theorem low3 (n : Int) : bits .and .i64 n 7 = n % 8 := and_low n 3 (by omega)
theorem low2 (n : Int) : bits .and .i64 n 3 = n % 4 := and_low n 2 (by omega)

theorem fits_top (s : LS) (left : Nat → Int) : ∀ k, k ≤ 8 → (∀ d, k ≤ d → d < 8 → ¬ fits s left d) → (∀ c, c < 8 → ¬ fits s left c) ∨ ∃ c x L, c < 8 ∧ s.q c = x :: L ∧ 8 * x.2.1 ≤ left c ∧ ∀ d, c < d → d < 8 → ¬ fits s left d
  | 0, _, h => .inl fun c hc => h c (Nat.zero_le _) hc
  | k + 1, hk, h => by
    by_cases hf : fits s left k
    · obtain ⟨x, L, hq, hx⟩ := hf
      exact .inr ⟨k, x, L, by omega, hq, hx, fun d h1 h2 => h d (by omega) h2⟩
    · refine fits_top s left k (by omega) fun d h1 h2 => ?_
      rcases Nat.lt_or_ge k d with g | g
      · exact h d (by omega) h2
      · obtain rfl : d = k := by omega
        exact hf
theorem pick_ways (s : LS) (left : Nat → Int) : (∀ c, c < 8 → ¬ fits s left c) ∨ ∃ c x L, c < 8 ∧ s.q c = x :: L ∧ 8 * x.2.1 ≤ left c ∧ ∀ d, c < d → d < 8 → ¬ fits s left d := fits_top s left 8 (by omega) (fun d h1 h2 => by omega)
section
variable {w0 w : World} {b : Nat} {F : Nat → Prop} {s : LS} {left : Nat → Int}
theorem pickB_none (h : LnB w0 w b F s) (G : s.Good) (hn : ∀ c, c < 8 → ¬ fits s left c) : Calls Try.prog 22 #[.pointer (some ⟨b, 0, none⟩), a8 left] w fun e w' => e = .returned (.tuple #[.int .i64 0, itv it0, .bool false]) ∧ Left w0 w b F s w' :=
  (pickB h G left).mono fun e w' hh => by
    rcases hh with ⟨_, h2, h3⟩ | ⟨c, x, L, hc, hq, hx, _⟩
    · exact ⟨h2, h3⟩
    · exact absurd ⟨x, L, hq, hx⟩ (hn c hc)
theorem pickB_some (h : LnB w0 w b F s) (G : s.Good) {c : Nat} {x : It} {L : List It} (hc : c < 8) (hq : s.q c = x :: L) (hx : 8 * x.2.1 ≤ left c) (hm : ∀ d, c < d → d < 8 → ¬ fits s left d) : Calls Try.prog 22 #[.pointer (some ⟨b, 0, none⟩), a8 left] w fun e w' => e = .returned (.tuple #[.int .i64 (c : Int), itv x, .bool true]) ∧ Left w0 w b F { s with q := upd s.q c L } w' :=
  (pickB h G left).mono fun e w' hh => by
    rcases hh with ⟨h1, _⟩ | ⟨c2, x2, L2, hc2, hq2, hx2, hm2, h3, h4⟩
    · exact absurd ⟨x, L, hq, hx⟩ (h1 c hc)
    · obtain rfl : c2 = c := by
        rcases Nat.lt_trichotomy c2 c with g | g | g
        · exact absurd ⟨x, L, hq, hx⟩ (hm2 c g hc)
        · exact g
        · exact absurd ⟨x2, L2, hq2, hx2⟩ (hm c2 g hc2)
      rw [hq] at hq2
      injection hq2 with e1 e2
      subst e1 e2
      exact ⟨h3, h4⟩
theorem tot_same {s t : LS} : ∀ k, (∀ c, c < k → t.q c = s.q c) → t.tot k = s.tot k
  | 0, _ => rfl
  | k + 1, h => by
    show t.tot k + (t.q k).length = s.tot k + (s.q k).length
    rw [tot_same k (fun c hc => h c (by omega)), h k (by omega)]
theorem tot_upd (s : LS) (c : Nat) (L : List It) : ∀ k, c < k → LS.tot { s with q := upd s.q c L } k + (s.q c).length = s.tot k + L.length
  | 0, h => by omega
  | k + 1, h => by
    show LS.tot { s with q := upd s.q c L } k + (upd s.q c L k).length + (s.q c).length = s.tot k + (s.q k).length + L.length
    rcases Nat.lt_or_ge c k with g | g
    · have := tot_upd s c L k g
      rw [upd_other _ _ (by omega)]
      omega
    · obtain rfl : c = k := by omega
      rw [upd_same, tot_same (s := s) c (fun d hd => upd_other _ _ (by omega))]
      omega
theorem tot_put (s : LS) (c : Int) (x : It) : (s.put c x).tot 8 = s.tot 8 + if s.pute c x = 0 then 1 else 0 := by
  unfold LS.put
  by_cases h0 : s.pute c x = 0
  · rw [if_pos h0, if_pos h0]
    have hc : c.toNat < 8 := by
      unfold LS.pute at h0
      split at h0
      · omega
      · split at h0 <;> omega
    have := tot_upd s c.toNat (s.q c.toNat ++ [x]) 8 hc
    simp only [List.length_append, List.length_singleton] at this
    omega
  · rw [if_neg h0, if_neg h0]
    split
    · exact tot_same 8 (fun _ _ => rfl)
    · rfl
theorem tot_pop {c : Nat} {x : It} {L : List It} (hc : c < 8) (hq : s.q c = x :: L) : s.tot 8 = LS.tot { s with q := upd s.q c L } 8 + 1 := by
  have := tot_upd s c L 8 hc
  rw [hq] at this
  simp at this
  omega
theorem tot_none (s : LS) : ∀ k, s.none.tot k = 0
  | 0 => rfl
  | k + 1 => by
    show s.none.tot k + 0 = 0
    rw [tot_none s k]
theorem tot_new (r : Nat → Int) : ∀ k, (LS.new r).tot k = 0
  | 0 => rfl
  | k + 1 => by
    show (LS.new r).tot k + 0 = 0
    rw [tot_new r k]
end
/-- Eight numbers as a row. -/
def nth (p0 p1 p2 p3 p4 p5 p6 p7 : Int) (k : Nat) : Int := match k with
  | 0 => p0 | 1 => p1 | 2 => p2 | 3 => p3 | 4 => p4 | 5 => p5 | 6 => p6 | _ => p7

end Go.Proofs.Ytllmfkodgalklaa
