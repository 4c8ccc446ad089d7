/- Package ether: addresses as numbers, and back. -/
import Derived.Test.YtbpkjljienadiaaEHead
import Derived.Test.YtbpkjljienadiaaEFlip
namespace Go.Proofs.Ytbpkjljienadiaa
open Go.RowKit Go.Joins

theorem mac_arg (w : World) (y0 y1 y2 y3 y4 y5 : Nat) (h : Crc.Bytes [y0, y1, y2, y3, y4, y5]) (c : Nat) (hc : 6 ≤ c) :
    BArg (w.alloc (.cells #[.int .u8 (y0 : Int), .int .u8 (y1 : Int), .int .u8 (y2 : Int), .int .u8 (y3 : Int), .int .u8 (y4 : Int), .int .u8 (y5 : Int)] 23)) (.slice (some ⟨w.heap.size, 0, none⟩) 6 c) [y0, y1, y2, y3, y4, y5] := by
  refine ⟨h, .inr ⟨by simp, w.heap.size, 0, c, rfl, hc, fun _ => ⟨by simp, fun k hk => ?_⟩⟩⟩
  have hk6 : k < 6 := hk
  have : k = 0 ∨ k = 1 ∨ k = 2 ∨ k = 3 ∨ k = 4 ∨ k = 5 := by clear hk; omega
  rw [Nat.zero_add, cell_of_row _ _ k _ _ _ (heap_alloc_new w _)]
  rcases this with rfl | rfl | rfl | rfl | rfl | rfl <;> rfl

theorem num_mac (y0 y1 y2 y3 y4 y5 : Nat) (h : Crc.Bytes [y0, y1, y2, y3, y4, y5]) :
    Ret 21 #[.agg #[.int .u8 (y0 : Int), .int .u8 (y1 : Int), .int .u8 (y2 : Int), .int .u8 (y3 : Int), .int .u8 (y4 : Int), .int .u8 (y5 : Int)]] (.int .i64 ((num [y0, y1, y2, y3, y4, y5] : Nat) : Int)) := fun w => by
  have HA := Lib.hid (mac_arg w y0 y1 y2 y3 y4 y5 h 6 (by omega))
  have HN : Hid (∀ W v, BArg W v [y0, y1, y2, y3, y4, y5] → Calls Try.prog 33 #[v] W fun e w' => e = .returned (.int .i64 ((num [y0, y1, y2, y3, y4, y5] : Nat) : Int)) ∧ W = w') := Lib.hid (fun W v hb => number_any hb (by simp))
  generalize num [y0, y1, y2, y3, y4, y5] = N at HN ⊢
  clear h
  go_enter Try.func21, Try.ntmps21
  go_wp2_with (go_at_call 33; (with_reducible refine (HN.out _ _ HA.out).mono ?_); rintro e w1 ⟨rfl, rfl⟩)
  go_ret
  exact ⟨rfl, bAl (bRef w) _⟩

theorem u8_and1 (a : Nat) (h : a < 256) : bits .and .u8 (a : Int) 1 = ((a % 2 : Nat) : Int) := by
  show IntKind.u8.wrap ((BitVec.ofInt 8 (a : Int) &&& BitVec.ofInt 8 1).toNat : Nat) = _
  rw [BitVec.toNat_and, show (BitVec.ofInt 8 1).toNat = 2 ^ 1 - 1 from by decide, Nat.and_two_pow_sub_one_eq_mod, BitVec.toNat_ofInt]
  unfold IntKind.wrap
  simp [IntKind.bits, IntKind.signed]
  omega
theorem group_ret (y0 y1 y2 y3 y4 y5 : Nat) (h : y0 < 256) :
    Ret 23 #[.agg #[.int .u8 (y0 : Int), .int .u8 (y1 : Int), .int .u8 (y2 : Int), .int .u8 (y3 : Int), .int .u8 (y4 : Int), .int .u8 (y5 : Int)]] (.bool (decide (y0 % 2 = 1))) := fun w => by
  have ha := u8_and1 y0 h
  obtain ⟨z, hz⟩ : ∃ z, z = y0 % 2 := ⟨_, rfl⟩
  have hz2 : z < 2 := by omega
  rw [← hz] at ha ⊢
  clear hz
  go_enter Try.func23, Try.ntmps23
  go_wp2_with fail
  go_ret
  refine ⟨?_, bAl (bRef w) _⟩
  have : z = 0 ∨ z = 1 := by omega
  rcases this with rfl | rfl <;> rfl

/-- The address of a number: its bytes. -/
def ofB (x : Int) (k : Nat) : Nat := (x / 256 ^ (5 - k) % 256).toNat
def ofL (x : Int) (j k : Nat) : Int := if k < j then (ofB x k : Int) else 0
theorem ofB_cast (x : Int) (k : Nat) : (ofB x k : Int) = x / 256 ^ (5 - k) % 256 := Int.toNat_of_nonneg (Int.emod_nonneg _ (by decide))
def OfRel (w : World) (x : Int) (iv : Value) (wr : World) : Prop :=
  ∃ j : Nat, j ≤ 6 ∧ iv = .int .i64 (j : Int) ∧ wr = (w.alloc (.cells #[.int .u8 0, .int .u8 0, .int .u8 0, .int .u8 0, .int .u8 0, .int .u8 0] 23)).alloc (.cells #[.int .u8 (ofL x j 0), .int .u8 (ofL x j 1), .int .u8 (ofL x j 2), .int .u8 (ofL x j 3), .int .u8 (ofL x j 4), .int .u8 (ofL x j 5)] 23)

set_option maxHeartbeats 1000000 in
theorem of_ret (x : Int) (h1 : -9223372036854775808 ≤ x) (h2 : x < 9223372036854775808) :
    Ret 22 #[.int .i64 x] (.agg #[.int .u8 (ofB x 0 : Int), .int .u8 (ofB x 1 : Int), .int .u8 (ofB x 2 : Int), .int .u8 (ofB x 3 : Int), .int .u8 (ofB x 4 : Int), .int .u8 (ofB x 5 : Int)]) := fun w => by
  go_enter Try.func22, Try.ntmps22
  go_wp2_with fail
  go_loopw [5] (fun iv wr => OfRel w x iv wr) (fun iv _ => 6 - (intOf iv).toNat)
  case atStart => exact ⟨0, by omega, rfl, rfl⟩
  case round =>
    obtain ⟨j, hj, rfl, rfl⟩ := hrel
    have hj6 : j = 0 ∨ j = 1 ∨ j = 2 ∨ j = 3 ∨ j = 4 ∨ j = 5 ∨ j = 6 := by omega
    rcases hj6 with rfl | rfl | rfl | rfl | rfl | rfl | rfl
    · go_wp2_with fail
      go_roundw
      case rel => exact ⟨1, by omega, rfl, by simp [ofL, ofB_cast]⟩
      case measure => simp [intOf]
    · go_wp2_with fail
      go_roundw
      case rel => exact ⟨2, by omega, rfl, by simp [ofL, ofB_cast]⟩
      case measure => simp [intOf]
    · go_wp2_with fail
      go_roundw
      case rel => exact ⟨3, by omega, rfl, by simp [ofL, ofB_cast]⟩
      case measure => simp [intOf]
    · go_wp2_with fail
      go_roundw
      case rel => exact ⟨4, by omega, rfl, by simp [ofL, ofB_cast]⟩
      case measure => simp [intOf]
    · go_wp2_with fail
      go_roundw
      case rel => exact ⟨5, by omega, rfl, by simp [ofL, ofB_cast]⟩
      case measure => simp [intOf]
    · go_wp2_with fail
      go_roundw
      case rel => exact ⟨6, by omega, rfl, by simp [ofL, ofB_cast]⟩
      case measure => simp [intOf]
    · go_wp2_with fail
      refine bodyPost_ret (results_cell_row rfl _ _ w.heap.size 23 _ (0, 0) _ rfl (heap_alloc2_old w _ _) Try.underlying23 rfl (by kernel_rfl)) rfl ?_
      exact ⟨rfl, bAl (bAl (bRef w) _) _⟩

end Go.Proofs.Ytbpkjljienadiaa
