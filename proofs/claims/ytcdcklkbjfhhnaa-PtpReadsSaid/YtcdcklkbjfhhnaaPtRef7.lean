/- The reference's number. -/
import Derived.Test.YtcdcklkbjfhhnaaPtNext
import Derived.Test.YtcdcklkbjfhhnaaPtRef1
namespace Go.Proofs.Ytcdcklkbjfhhnaa
open Go.RowKit Go.Joins

theorem wrap_w64 (x : Nat) (h : x < 18446744073709551616) : wrap64 (x : Int) = w64 x := by
  unfold w64 wrap64
  split <;> omega
def NumRel (l : List Nat) (uv iv : Value) : Prop := ∃ j : Nat, j ≤ l.length ∧ iv = .int .i64 (j : Int) ∧ uv = .int .u64 ((unum (l.take j) : Nat) : Int)
theorem number_ret (b o c n : Nat) (l : List Nat) (w : World) (hn : n ≤ 8) (hl : Hid (l.length = n)) (hx : Hid (Crc.Bytes l)) (hd : Hid (∀ j, j < n → w.cell? ⟨b, o + j, none⟩ = some (.int .u8 ((l.getD j 0 : Nat) : Int)))) :
    Calls Try.prog 27 #[.slice (some ⟨b, o, none⟩) n c] w fun e w' => e = .returned (.int .i64 (w64 (unum l))) ∧ w = w' := by
  go_enter Try.func27, Try.ntmps27
  go_wp2_with fail
  go_loop [3, 7, 4] (fun xv iv _ => NumRel l xv iv) (fun _ iv _ => n - (intOf iv).toNat)
  case atStart => exact ⟨0, by omega, rfl, by simp [unum]⟩
  case round =>
    obtain ⟨j, hj, rfl, rfl⟩ := hrel
    rw [hl.out] at hj
    rcases Nat.lt_or_ge j n with g | g
    · have hd2 : decide ((j : Int) < (n : Int)) = true := decide_eq_true (by omega)
      have hs := unum_small (Crc.bytes_take hx.out j) (by rw [List.length_take, hl.out]; omega)
      have hcell := hd.out j g
      have hb := Crc.getD_byte hx.out j
      have hsn := unum_snoc (l.take j) (l.getD j 0)
      rw [← take_snoc (by rw [hl.out]; exact g)] at hsn
      obtain ⟨x, hxe⟩ : ∃ x, x = unum (l.take j) := ⟨_, rfl⟩
      obtain ⟨y, hye⟩ : ∃ y, y = l.getD j 0 := ⟨_, rfl⟩
      rw [← hxe] at hs hsn ⊢
      rw [← hye] at hb hcell hsn
      have Hsn := Lib.hid hsn
      clear hxe hye hsn
      go_wp2_with fail
      go_round
      case rel => exact ⟨j + 1, by rw [hl.out]; omega, by go_num, by rw [Hsn.out]; first | rfl | go_num⟩
      case measure => simp [intOf]; omega
    · obtain rfl : j = n := by omega
      rw [List.take_of_length_le (by rw [hl.out]; omega)]
      have HW := Lib.hid (wrap_w64 (unum l) (Nat.lt_of_lt_of_le (unum_lt hx.out) (Nat.le_trans (Nat.pow_le_pow_right (by decide) (by rw [hl.out]; exact hn)) (by decide))))
      go_wp2_with fail
      go_ret
      exact ⟨congrArg (fun z => Ending.returned (Value.int IntKind.i64 z)) HW.out, rfl⟩

end Go.Proofs.Ytcdcklkbjfhhnaa
