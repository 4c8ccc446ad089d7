/- FcsHits: one bit that was turned is found. -/
import Derived.Test.YtglmkjnhkjljpabOpens
namespace Go.Proofs.Ytglmkjnhkjljpab
open Go.RowKit Go.Joins

theorem and_low (n : Int) (k : Nat) (hk : k < 63) : bits .and .i64 n ((2 ^ k - 1 : Nat) : Int) = n % ((2 ^ k : Nat) : Int) := by
  have hp : 2 ^ k ≤ 2 ^ 62 := Nat.pow_le_pow_right (by omega) (by omega)
  have hpos := Nat.two_pow_pos k
  have hm : (BitVec.ofInt 64 ((2 ^ k - 1 : Nat) : Int)).toNat = 2 ^ k - 1 := by
    rw [BitVec.toNat_ofInt]; omega
  have hd : (2 ^ k : Nat) ∣ 2 ^ 64 := Nat.pow_dvd_pow 2 (by omega)
  have key : (BitVec.ofInt 64 n &&& BitVec.ofInt 64 ((2 ^ k - 1 : Nat) : Int)).toNat = (n % ((2 ^ 64 : Nat) : Int)).toNat % 2 ^ k := by
    rw [BitVec.toNat_and, BitVec.toNat_ofInt, hm, Nat.and_two_pow_sub_one_eq_mod]
  show IntKind.i64.wrap ((BitVec.ofInt 64 n &&& BitVec.ofInt 64 ((2 ^ k - 1 : Nat) : Int)).toNat : Nat) = _
  rw [key, IntKind.wrap_i64]
  have e : (((n % ((2 ^ 64 : Nat) : Int)).toNat % 2 ^ k : Nat) : Int) = n % ((2 ^ k : Nat) : Int) := by
    rw [Int.natCast_emod, Int.toNat_of_nonneg (Int.emod_nonneg _ (by simp))]
    exact Int.emod_emod_of_dvd _ (Int.natCast_dvd_natCast.2 hd)
  rw [e]
  have h1 := Int.emod_nonneg n (show ((2 ^ k : Nat) : Int) ≠ 0 by omega)
  have h2 := Int.emod_lt_of_pos n (show (0 : Int) < ((2 ^ k : Nat) : Int) by omega)
  generalize n % ((2 ^ k : Nat) : Int) = z at *
  omega

theorem pow_cast (k : Nat) : (2 : Int) ^ k = ((2 ^ k : Nat) : Int) := by rw [Int.natCast_pow]; rfl
theorem pow8_lt (q : Nat) : 2 ^ (q % 8) < 256 := by
  have : 2 ^ (q % 8) ≤ 2 ^ 7 := Nat.pow_le_pow_right (by omega) (by omega)
  omega
theorem u8_flip (x q : Nat) (hx : x < 256) : bits BinOp.xor IntKind.u8 (x : Int) ((2 : Int) ^ (q % 8) % 256) = ((x ^^^ 2 ^ (q % 8) : Nat) : Int) := by
  have h := pow8_lt q
  rw [pow_cast]
  generalize 2 ^ (q % 8) = z at *
  rw [Int.emod_eq_of_lt (by omega) (by omega)]
  exact u8_xor x z hx h

theorem hit_closed {xs : List Nat} (h : Crc.Bytes xs) : hitOf (Crc.close xs) = none := by
  unfold hitOf
  rw [if_neg (by rw [Crc.close_len]; omega), Crc.wrong_close xs h]
  cases e : lastHit 0 (8 * (Crc.close xs).length) with
  | none => rfl
  | some j => exact absurd (lastHit_some _ e).2.1 (Crc.T_high_ne j)
theorem hit_flip {xs : List Nat} {q : Nat} (h : Crc.Bytes xs) (hl : xs.length ≤ 40) (hq : q < 8 * (xs.length + 4)) : hitOf (Crc.flip (Crc.close xs) q) = some (8 * (xs.length + 4) - 1 - q) := by
  unfold hitOf
  have e1 : (Crc.flip (Crc.close xs) q).length = xs.length + 4 := by rw [Crc.flip_len, Crc.close_len]
  rw [e1, if_neg (by omega), Crc.wrong_flip (by rw [Crc.close_len]; omega) (by rw [Crc.close_len]; omega), Crc.wrong_close xs h, Nat.zero_xor, Crc.close_len]
  refine lastHit_eq (by omega) rfl fun j h1 h2 => ?_
  exact fun e => Crc.T_high_inj h1 (by omega) e.symm

theorem hits_long (p : Option Addr) (n c : Nat) (a : Int) (hn : 40 < n) (w : World) :
    Calls Try.prog 6 #[.slice p n c, .int .i64 a] w fun e w' => e = .returned (.bool true) ∧ Below w.heap.size w w' := by
  have HH := head_ret
  go_enter Try.func6, Try.ntmps6
  go_wp2_with (go_at_call 9; (with_reducible refine (HH.go _).mono ?_); rintro e w1 ⟨rfl, hb⟩)
  go_ret
  exact ⟨rfl, hb⟩

theorem close_at {v : Value} {xs : List Nat} {w : World} {n : Nat} (h : BArg w v xs) (hl : xs.length ≤ 140737488355000) (hn : xs.length = n) :
    Calls Try.prog 14 #[v] w fun e w' => ∃ g c, e = .returned (.slice (some ⟨g, 0, none⟩) (n + 4) c) ∧ n + 4 ≤ c ∧ OwnB w w' (.slice (some ⟨g, 0, none⟩) (n + 4) c) (Crc.close xs) := by
  refine (close_any h hl).mono fun e w' hh => ?_
  obtain ⟨v', e1, h1⟩ := hh
  obtain ⟨g, c, rfl, hc, _, _⟩ := h1.form
  rw [Crc.close_len, hn] at h1 e1 hc
  exact ⟨g, c, e1, hc, h1⟩
theorem copy_at {v : Value} {xs : List Nat} {w : World} {n : Nat} (h : BArg w v xs) (hl : xs.length ≤ 140737488355328) (hn : xs.length = n) :
    Calls Try.prog 10 #[v] w fun e w' => ∃ g c, e = .returned (.slice (some ⟨g, 0, none⟩) n c) ∧ n ≤ c ∧ OwnB w w' (.slice (some ⟨g, 0, none⟩) n c) xs := by
  refine (copy_any h hl).mono fun e w' hh => ?_
  obtain ⟨v', e1, h1⟩ := hh
  obtain ⟨g, c, rfl, hc, _, _⟩ := h1.form
  rw [hn] at h1 e1 hc
  exact ⟨g, c, e1, hc, h1⟩
theorem hit_none {v : Value} {xs : List Nat} {w : World} (hx : Crc.Bytes xs) (h : BArg w v (Crc.close xs)) (hl : xs.length ≤ 40) :
    Calls Try.prog 18 #[v] w fun e w' => e = .returned (.tuple #[.int .i64 0, .int .i64 0, .bool false]) ∧ Below w.heap.size w w' := by
  have := hit_any h (by rw [Crc.close_len]; omega)
  rw [hit_closed hx] at this
  exact this
theorem hit_one {v : Value} {xs : List Nat} {w : World} {q : Nat} (hx : Crc.Bytes xs) (hl : xs.length ≤ 40) (hq : q < 8 * (xs.length + 4)) (h : BArg w v (Crc.flip (Crc.close xs) q)) :
    Calls Try.prog 18 #[v] w fun e w' => e = .returned (.tuple #[.int .i64 ((q : Int) / 8), .int .i64 ((q : Int) % 8), .bool true]) ∧ Below w.heap.size w w' := by
  have e1 : (Crc.flip (Crc.close xs) q).length = xs.length + 4 := by rw [Crc.flip_len, Crc.close_len]
  refine (hit_any h (by rw [e1]; omega)).mono fun e w' hh => ?_
  obtain ⟨h1, h2⟩ := hh
  rw [hit_flip hx hl hq, e1] at h1
  refine ⟨h1.trans ?_, h2⟩
  show Ending.returned (.tuple #[.int .i64 (((xs.length + 4 : Nat) : Int) - 1 - (((8 * (xs.length + 4) - 1 - q) / 8 : Nat) : Int)), .int .i64 (7 - (((8 * (xs.length + 4) - 1 - q) % 8 : Nat) : Int)), .bool true]) = _
  rw [show ((xs.length + 4 : Nat) : Int) - 1 - (((8 * (xs.length + 4) - 1 - q) / 8 : Nat) : Int) = (q : Int) / 8 by omega, show 7 - (((8 * (xs.length + 4) - 1 - q) % 8 : Nat) : Int) = (q : Int) % 8 by omega]

theorem flip_eq {cs : List Nat} {q x y : Nat} (hy : y = x ^^^ 2 ^ (q % 8)) (hx : x = cs.getD (q / 8) 0) : cs.set (q / 8) y = Crc.flip cs q := by
  unfold Crc.flip; rw [hy, hx]

set_option maxHeartbeats 4000000 in
set_option maxRecDepth 20000 in
theorem hits_mid (p : Option Addr) (n c a0 q : Nat) (a : Int) (xs : List Nat) (w : World) (h : BArg w (.slice p n c) xs) (hn : xs.length = n) (hl : n ≤ 40)
    (ha : bits BinOp.and IntKind.i64 a 65535 = (a0 : Int)) (hq : (a0 : Int) % (8 * ((n : Int) + 4)) = (q : Int)) (hq1 : q < 8 * (n + 4)) :
    Calls Try.prog 6 #[.slice p n c, .int .i64 a] w fun e w' => e = .returned (.bool true) ∧ Below w.heap.size w w' := by
  have H := Lib.hid h
  have HN := Lib.hid hn
  have HX := Lib.hid h.1
  have L1 := Lib.hid (show xs.length ≤ 140737488355000 by omega)
  have L2 := Lib.hid (show xs.length ≤ 40 by omega)
  have L3 := Lib.hid (show (Crc.close xs).length ≤ 140737488355328 by rw [Crc.close_len]; omega)
  have L4 := Lib.hid (show (Crc.close xs).length = n + 4 by rw [Crc.close_len]; omega)
  have L5 := Lib.hid (show q < 8 * (xs.length + 4) by omega)
  have HH := head_ret
  have hp8 := pow8_lt q
  clear h hn
  go_enter Try.func6, Try.ntmps6
  go_wp2_with (first
    | (go_at_call 9; (with_reducible refine (HH.go _).mono ?_); rintro e w1 ⟨rfl, hb⟩; have HB := Lib.hid hb; have HA := Lib.hid (H.out.below hb); clear hb)
    | (go_at_call 14; (with_reducible refine (close_at HA.out L1.out HN.out).mono ?_); rintro e w2 ⟨g2, c2, rfl, hc2, hown⟩; have HC := Lib.hid hown.arg; replace HB := Lib.hid (bTr HB.out hown.bel); clear hown)
    | (go_at_call 18; (with_reducible refine (hit_none HX.out HC.out L2.out).mono ?_); rintro e w3 ⟨rfl, hb⟩; replace HC := Lib.hid (HC.out.below hb); replace HB := Lib.hid (bTr HB.out hb); clear hb)
    | (go_at_call 10; (with_reducible refine (copy_at HC.out L3.out L4.out).mono ?_); rintro e w4 ⟨g4, c4, rfl, hc4, hown⟩; have HO := Lib.hid hown; have hcell := HO.out.cell (k := q / 8) (by rw [L4.out]; omega); have hfr := HO.out.frozen (q / 8); have hx := Crc.getD_byte HO.out.2.2.1 (q / 8); clear hown; obtain ⟨x, hxe⟩ : ∃ x, x = (Crc.close xs).getD (q / 8) 0 := ⟨_, rfl⟩; rw [← hxe] at hcell hx; have Hxe := Lib.hid hxe; clear hxe; have hxo := u8_flip x q hx; have hlt := Crc.xor_lt8 x (2 ^ (q % 8)) hx hp8; obtain ⟨y, hy⟩ : ∃ y, y = x ^^^ 2 ^ (q % 8) := ⟨_, rfl⟩; rw [← hy] at hxo hlt; have Hy := Lib.hid hy; clear hy)
    | (go_at_call 18; (with_reducible refine (hit_one HX.out L2.out L5.out (own_eq (HO.out.set hlt) (flip_eq Hy.out Hxe.out)).arg).mono ?_); rintro e w5 ⟨rfl, hb⟩; have HB5 := Lib.hid (bTr (bTr HB.out (HO.out.set (k := q / 8) hlt).bel) hb); clear hb))
  go_ret
  exact ⟨rfl, HB5.out⟩

theorem hits_walk (v : Value) (xs : List Nat) (a : Int) (w : World) (h : BArg w v xs) (_ : -9223372036854775808 ≤ a) (_ : a < 9223372036854775808) :
    Calls Try.prog 6 #[v, .int .i64 a] w fun e w' => e = .returned (.bool true) ∧ Below w.heap.size w w' := by
  obtain ⟨p, c, rfl⟩ := h.slice
  rcases Nat.lt_or_ge 40 xs.length with hn | hn
  · exact hits_long p _ c a hn w
  have ha := and_low a 16 (by omega)
  change bits .and .i64 a 65535 = a % 65536 at ha
  refine hits_mid p _ c (a % 65536).toNat ((a % 65536).toNat % (8 * (xs.length + 4))) a xs w h rfl hn (by rw [ha]; omega) (by rw [Int.natCast_emod, show ((8 * (xs.length + 4) : Nat) : Int) = 8 * ((xs.length : Int) + 4) by omega]) (Nat.mod_lt _ (by omega))

end Go.Proofs.Ytglmkjnhkjljpab
