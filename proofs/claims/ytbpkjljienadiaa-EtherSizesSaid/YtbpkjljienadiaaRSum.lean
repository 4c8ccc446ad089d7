/- The reference's check of any bytes. -/
import Derived.Test.YtbpkjljienadiaaSums
namespace Go.Proofs.Ytbpkjljienadiaa
open Go.RowKit

theorem u64_xor (a b : Nat) (ha : a < 4294967296) (hb : b < 4294967296) : bits .xor .u64 (a : Int) (b : Int) = ((a ^^^ b : Nat) : Int) := by
  have h := Crc.xor_lt a b ha hb
  show IntKind.u64.wrap ((BitVec.ofInt 64 (a : Int) ^^^ BitVec.ofInt 64 (b : Int)).toNat : Nat) = _
  rw [BitVec.toNat_xor, BitVec.toNat_ofInt, BitVec.toNat_ofInt, show ((a : Int) % ((2 ^ 64 : Nat) : Int)).toNat = a by omega, show ((b : Int) % ((2 ^ 64 : Nat) : Int)).toNat = b by omega, IntKind.wrap_u64]
  omega
theorem not_eq (x : Nat) (h : x < 4294967296) : x ^^^ Crc.M = 4294967295 - x := by
  have e := congrArg BitVec.toNat (BitVec.allOnes_xor (x := BitVec.ofNat 32 x))
  rw [BitVec.toNat_xor, BitVec.toNat_not, BitVec.toNat_allOnes, BitVec.toNat_ofNat, Nat.mod_eq_of_lt h] at e
  rw [Nat.xor_comm]
  exact e

theorem turn_even {x c : Nat} (h : (x % 2 + c % 2) % 2 = 0) : (x / 2) ^^^ (c / 2) = Crc.step (x ^^^ c) := by
  unfold Crc.step
  rw [Crc.mod2_xor, h, Crc.div2_xor]; rfl
theorem turn_odd {x c : Nat} (h : (x % 2 + c % 2) % 2 = 1) : ((x / 2) ^^^ Crc.P) ^^^ (c / 2) = Crc.step (x ^^^ c) := by
  unfold Crc.step
  rw [Crc.mod2_xor, h, Crc.div2_xor, Nat.xor_assoc, Nat.xor_comm Crc.P, ← Nat.xor_assoc]; rfl

theorem rsum_none (a : Option Addr) (c : Nat) (w : World) : Calls Try.prog 32 #[.slice a 0 c] w (SumPost w []) := by
  go_enter Try.func32, Try.ntmps32
  go_wp2_with fail
  go_loop [3, 10] (fun x i => x = .int .u64 4294967295 ∧ i = .int .i64 0) (fun _ _ => 0)
  case atStart => exact ⟨rfl, rfl⟩
  case round =>
    obtain ⟨rfl, rfl⟩ := hrel
    go_wp2_with fail
    go_ret
    exact ⟨rfl, bRef w⟩

def RSumRel (xs : List Nat) (xv iv : Value) : Prop :=
  ∃ k : Nat, k ≤ xs.length ∧ iv = .int .i64 (k : Int) ∧ xv = .int .u64 ((Crc.raw Crc.M (xs.take k) : Nat) : Int)
def RFeedRel (y c : Nat) (xv cv jv : Value) : Prop :=
  ∃ j x d : Nat, j ≤ 8 ∧ jv = .int .i64 (j : Int) ∧ xv = .int .u64 (x : Int) ∧ cv = .int .u64 (d : Int) ∧ x < 4294967296 ∧ d * 2 ^ j < 256 ∧ x ^^^ d = Crc.T j (y ^^^ c)
theorem feed_next {y c j x d x' : Nat} {jv : Int} (hj : j < 8) (hjv : jv = ((j + 1 : Nat) : Int)) (hx : x' < 4294967296) (hd : d * 2 ^ j < 256) (he : x ^^^ d = Crc.T j (y ^^^ c)) (hs : x' ^^^ (d / 2) = Crc.step (x ^^^ d)) {xv dv : Int} (hxv : xv = (x' : Int)) (hdv : dv = ((d / 2 : Nat) : Int)) :
    RFeedRel y c (.int .u64 xv) (.int .u64 dv) (.int .i64 jv) := by
  subst hjv hxv hdv
  refine ⟨j + 1, x', d / 2, by omega, rfl, rfl, rfl, hx, ?_, ?_⟩
  · have : d / 2 * 2 ≤ d := by omega
    have h2 : d / 2 * 2 * 2 ^ j ≤ d * 2 ^ j := Nat.mul_le_mul_right _ this
    rw [Nat.pow_succ', ← Nat.mul_assoc]; omega
  · rw [hs, he, Crc.T_succ]
theorem d_small {j d : Nat} (h : d * 2 ^ j < 256) : d < 256 := by
  have := Nat.mul_le_mul_left d (Nat.two_pow_pos j)
  omega

set_option maxHeartbeats 1000000 in
theorem rsum_some (b o c : Nat) (xs : List Nat) (w : World) (hx : Crc.Bytes xs) (hl : xs.length ≤ 140737488355328) (hr : Rd w b o xs) :
    Calls Try.prog 32 #[.slice (some ⟨b, o, none⟩) xs.length c] w (SumPost w xs) := by
  obtain ⟨n, hn⟩ : ∃ n, n = xs.length := ⟨_, rfl⟩
  rw [← hn] at hl ⊢
  have Hn := Lib.hid hn
  have Hr := Lib.hid hr
  have Hx := Lib.hid hx
  clear hn hr hx
  go_enter Try.func32, Try.ntmps32
  go_wp2_with fail
  go_loop [3, 10] (fun xv iv => RSumRel xs xv iv) (fun _ iv => n - (intOf iv).toNat)
  case atStart => exact ⟨0, by omega, rfl, rfl⟩
  case round =>
    obtain ⟨k, hk, rfl, rfl⟩ := hrel
    rw [← Hn.out] at hk
    have hy := Crc.raw_lt (xs.take k) (Crc.bytes_take Hx.out k) Crc.M (by decide)
    rcases Nat.lt_or_ge k n with g | g
    · have hd : decide ((k : Int) < (n : Int)) = true := decide_eq_true (by omega)
      have hcell := (Hr.out (by rw [← Hn.out]; omega)).2 k (by rw [← Hn.out]; exact g)
      have hb := Crc.getD_byte Hx.out k
      have hraw := raw_take (xs := xs) (k := k) (by rw [← Hn.out]; exact g)
      obtain ⟨x, hxe⟩ : ∃ x, x = xs.getD k 0 := ⟨_, rfl⟩
      rw [← hxe] at hcell hb hraw
      obtain ⟨y, hye⟩ : ∃ y, y = Crc.raw Crc.M (xs.take k) := ⟨_, rfl⟩
      rw [← hye] at hy hraw ⊢
      have Hraw := Lib.hid hraw
      clear hxe hye hraw
      go_wp2_with fail
      go_loop [3, 5, 6] (fun xv cv jv => RFeedRel y x xv cv jv) (fun _ _ jv => 8 - (intOf jv).toNat)
      case atStart => exact ⟨0, y, x, by omega, rfl, rfl, rfl, hy, by omega, rfl⟩
      case round =>
        obtain ⟨j, x', d, hj, rfl, rfl, rfl, hx', hdj, he⟩ := hrel
        have He := Lib.hid he
        have hd8 := d_small hdj
        have Hdj := Lib.hid hdj
        clear he hdj
        rcases Nat.lt_or_ge j 8 with g2 | g2
        · have hxo := u64_xor (x' / 2) Crc.P (by omega) (by decide)
          rw [show ((x' / 2 : Nat) : Int) = (x' : Int) / 2 by omega] at hxo
          change bits BinOp.xor IntKind.u64 ((x' : Int) / 2) 3988292384 = _ at hxo
          rcases Nat.mod_two_eq_zero_or_one (x' % 2 + d % 2) with hp | hp
          · have hq : (((x' : Int) % 2 + (d : Int) % 2) % 2 == 1) = false := by rw [beq_eq_false_iff_ne]; omega
            have Hp := Lib.hid hp
            clear hp hxo
            go_wp2_with fail
            go_round
            case rel => exact feed_next (x' := x' / 2) g2 (by omega) (by omega) Hdj.out He.out (turn_even Hp.out) (by omega) (by omega)
            case measure => simp [intOf]; omega
          · have hq : (((x' : Int) % 2 + (d : Int) % 2) % 2 == 1) = true := by rw [beq_iff_eq]; omega
            have Hp := Lib.hid hp
            have hlt := Crc.xor_lt (x' / 2) Crc.P (by omega) (by decide)
            clear hp
            go_wp2_with fail
            go_round
            case rel => exact feed_next (x' := (x' / 2) ^^^ Crc.P) g2 (by omega) hlt Hdj.out He.out (turn_odd Hp.out) (by first | rfl | assumption | omega) (by omega)
            case measure => simp [intOf]; omega
        · obtain rfl : j = 8 := by omega
          have hd0 : d = 0 := by have := Hdj.out; omega
          subst hd0
          go_wp2_with fail
          go_round
          case rel => exact ⟨k + 1, by rw [← Hn.out]; omega, by go_num, by rw [Hraw.out, ← He.out, Nat.xor_zero]⟩
          case measure => simp [intOf]; omega
    · obtain rfl : k = n := by omega
      have htake : xs.take k = xs := by rw [Hn.out, List.take_length]
      rw [htake] at hy ⊢
      have hnot := not_eq (Crc.raw Crc.M xs) hy
      have hs : Crc.sum xs = 4294967295 - Crc.raw Crc.M xs := hnot
      have Hs := Lib.hid hs
      clear hnot hs
      generalize Crc.raw Crc.M xs = y at *
      go_wp2_with fail
      go_ret
      exact ⟨by rw [Hs.out, show ((4294967295 - y : Nat) : Int) = 4294967295 - (y : Int) by omega]; rfl, bRef w⟩

theorem rsum_any {v : Value} {xs : List Nat} {w : World} (h : BArg w v xs) (hl : xs.length ≤ 140737488355328) : Calls Try.prog 32 #[v] w (SumPost w xs) := by
  obtain ⟨h1, h2⟩ := h
  rcases h2 with ⟨rfl, a, c, rfl, _⟩ | ⟨h0, b, o, c, rfl, hc, hr⟩
  · exact rsum_none a c w
  · exact rsum_some b o c xs w h1 hl hr

end Go.Proofs.Ytbpkjljienadiaa
