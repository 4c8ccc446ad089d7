/- Package fcs: the check of any bytes; the reference's. -/
import Derived.Test.YtbpkjljienadiaaByt
namespace Go.Proofs.Ytbpkjljienadiaa
open Go.RowKit

theorem sum_none (a : Option Addr) (c : Nat) (w : World) : Calls Try.prog 34 #[.slice a 0 c] w (SumPost w []) := by
  go_enter Try.func34, Try.ntmps34
  go_wp2_with fail
  go_loop [3, 8] (fun x i => x = .int .u32 4294967295 ∧ i = .int .i64 0) (fun _ _ => 0)
  case atStart => exact ⟨rfl, rfl⟩
  case round =>
    obtain ⟨rfl, rfl⟩ := hrel
    go_wp2_with fail
    go_ret
    exact ⟨rfl, bRef w⟩

def SumRel (xs : List Nat) (xv iv : Value) : Prop :=
  ∃ k : Nat, k ≤ xs.length ∧ iv = .int .i64 (k : Int) ∧ xv = .int .u32 ((Crc.raw Crc.M (xs.take k) : Nat) : Int)
def FeedRel (y : Nat) (xv jv : Value) : Prop :=
  ∃ j : Nat, j ≤ 8 ∧ jv = .int .i64 (j : Int) ∧ xv = .int .u32 ((Crc.T j y : Nat) : Int)
theorem take_snoc {xs : List Nat} {k : Nat} (h : k < xs.length) : xs.take (k + 1) = xs.take k ++ [xs.getD k 0] := by
  rw [List.take_succ_eq_append_getElem h]; simp [List.getD_eq_getElem?_getD, h]
theorem raw_take {xs : List Nat} {k : Nat} (h : k < xs.length) : Crc.raw Crc.M (xs.take (k + 1)) = Crc.T 8 (Crc.raw Crc.M (xs.take k) ^^^ xs.getD k 0) := by
  rw [take_snoc h]; unfold Crc.raw; rw [List.foldl_append]; rfl

set_option maxHeartbeats 1000000 in
theorem sum_some (b o c : Nat) (xs : List Nat) (w : World) (hx : Crc.Bytes xs) (hl : xs.length ≤ 140737488355328) (hr : Rd w b o xs) :
    Calls Try.prog 34 #[.slice (some ⟨b, o, none⟩) xs.length c] w (SumPost w xs) := by
  obtain ⟨n, hn⟩ : ∃ n, n = xs.length := ⟨_, rfl⟩
  rw [← hn] at hl ⊢
  have Hn := Lib.hid hn
  have Hr := Lib.hid hr
  have Hx := Lib.hid hx
  clear hn hr hx
  go_enter Try.func34, Try.ntmps34
  go_wp2_with fail
  go_loop [3, 8] (fun xv iv => SumRel xs xv iv) (fun _ iv => n - (intOf iv).toNat)
  case atStart => exact ⟨0, by omega, rfl, rfl⟩
  case round =>
    obtain ⟨k, hk, rfl, rfl⟩ := hrel
    rw [← Hn.out] at hk
    have hy := Crc.raw_lt (xs.take k) (Crc.bytes_take Hx.out k) Crc.M (by decide)
    rcases Nat.lt_or_ge k n with g | g
    · have hd : decide ((k : Int) < (n : Int)) = true := decide_eq_true (by omega)
      have hcell := (Hr.out (by rw [← Hn.out]; omega)).2 k (by rw [← Hn.out]; exact g)
      have hb := Crc.getD_byte Hx.out k
      have hraw := raw_take (xs := xs) (k := k) (by rw [← Hn.out]; exact g)
      obtain ⟨x, hxe⟩ : ∃ x, x = xs.getD k 0 := ⟨_, rfl⟩
      rw [← hxe] at hcell hb hraw
      obtain ⟨y, hye⟩ : ∃ y, y = Crc.raw Crc.M (xs.take k) := ⟨_, rfl⟩
      rw [← hye] at hy hraw ⊢
      have Hraw := Lib.hid hraw
      have hxor := u32_xor y x hy (by omega)
      have hyx := Crc.xor_lt y x hy (by omega)
      obtain ⟨z, hze⟩ : ∃ z, z = y ^^^ x := ⟨_, rfl⟩
      rw [← hze] at hxor hyx
      have Hz := Lib.hid hze
      clear hxe hye hraw hze
      go_wp2_with fail
      go_loop [3, 16] (fun xv jv => FeedRel z xv jv) (fun _ jv => 8 - (intOf jv).toNat)
      case atStart => exact ⟨0, by omega, rfl, rfl⟩
      case round =>
        obtain ⟨j, hj, rfl, rfl⟩ := hrel
        have ht := Crc.T_lt j z hyx
        have hts := Crc.T_succ j z
        rcases Nat.lt_or_ge j 8 with g2 | g2
        · obtain ⟨t, hte⟩ : ∃ t, t = Crc.T j z := ⟨_, rfl⟩
          rw [← hte] at ht hts ⊢
          have Hts := Lib.hid hts
          have HS := step_ret ht
          clear hte hts
          go_wp2_with (go_at_call 40; (with_reducible refine (HS.go _).mono ?_); rintro e wx ⟨rfl, rfl⟩)
          go_round
          case rel => exact ⟨j + 1, by omega, by go_num, by rw [Hts.out]⟩
          case measure => simp [intOf]; omega
        · obtain rfl : j = 8 := by omega
          clear hts
          go_wp2_with fail
          go_round
          case rel => exact ⟨k + 1, by rw [← Hn.out]; omega, by go_num, by rw [Hraw.out, Hz.out]⟩
          case measure => simp [intOf]; omega
    · obtain rfl : k = n := by omega
      have htake : xs.take k = xs := by rw [Hn.out, List.take_length]
      rw [htake] at hy ⊢
      have hnot := u32_not (Crc.raw Crc.M xs) hy
      go_wp2_with fail
      go_ret
      exact ⟨by unfold Crc.sum; rw [← hnot]; rfl, bRef w⟩

theorem sum_any {v : Value} {xs : List Nat} {w : World} (h : BArg w v xs) (hl : xs.length ≤ 140737488355328) : Calls Try.prog 34 #[v] w (SumPost w xs) := by
  obtain ⟨h1, h2⟩ := h
  rcases h2 with ⟨rfl, a, c, rfl, _⟩ | ⟨h0, b, o, c, rfl, hc, hr⟩
  · exact sum_none a c w
  · exact sum_some b o c xs w h1 hl hr

end Go.Proofs.Ytbpkjljienadiaa
