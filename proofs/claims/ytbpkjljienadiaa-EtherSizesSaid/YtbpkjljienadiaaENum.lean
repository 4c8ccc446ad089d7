/- Package ether: bytes as a number; numbers of two bytes laid behind others. -/
import Derived.Test.YtbpkjljienadiaaESize
import Derived.Test.YtbpkjljienadiaaSums
namespace Go.Proofs.Ytbpkjljienadiaa
open Go.RowKit Go.Joins

/-- Bytes as a number, the first the highest. -/
def num (xs : List Nat) : Nat := xs.foldl (fun a c => a * 256 + c) 0
theorem num_snoc (xs : List Nat) (y : Nat) : num (xs ++ [y]) = num xs * 256 + y := by unfold num; rw [List.foldl_append]; rfl
theorem num_from (xs : List Nat) : ∀ a, Crc.Bytes xs → xs.foldl (fun a c => a * 256 + c) a < (a + 1) * 256 ^ xs.length := by
  induction xs with
  | nil => intro a _; simp
  | cons y l ih =>
    intro a h
    have h1 := ih (a * 256 + y) (fun x hx => h x (List.mem_cons_of_mem _ hx))
    have h2 := h y (by simp)
    show l.foldl _ (a * 256 + y) < _
    rw [List.length_cons, Nat.pow_succ, Nat.mul_comm (256 ^ l.length), ← Nat.mul_assoc]
    exact Nat.lt_of_lt_of_le h1 (Nat.mul_le_mul_right _ (by omega))
theorem num_lt (xs : List Nat) (h : Crc.Bytes xs) : num xs < 256 ^ xs.length := by
  have := num_from xs 0 h
  rwa [Nat.zero_add, Nat.one_mul] at this
theorem num_small {xs : List Nat} (h : Crc.Bytes xs) (hl : xs.length ≤ 6) : num xs < 281474976710656 :=
  Nat.lt_of_lt_of_le (num_lt xs h) (Nat.pow_le_pow_right (by omega) hl)

theorem i64_or (x c : Nat) (hx : x < 281474976710656) (hc : c < 256) : bits .or .i64 ((x * 256 : Nat) : Int) (c : Int) = ((x * 256 + c : Nat) : Int) := by
  have e : x * 256 ||| c = x * 256 + c := by
    have := Nat.two_pow_add_eq_or_of_lt (i := 8) (b := c) (by omega) x
    rw [Nat.mul_comm x 256]
    exact this.symm
  show IntKind.i64.wrap ((BitVec.ofInt 64 ((x * 256 : Nat) : Int) ||| BitVec.ofInt 64 (c : Int)).toNat : Nat) = _
  rw [BitVec.toNat_or, BitVec.toNat_ofInt, BitVec.toNat_ofInt, show (((x * 256 : Nat) : Int) % ((2 ^ 64 : Nat) : Int)).toNat = x * 256 by omega, show ((c : Int) % ((2 ^ 64 : Nat) : Int)).toNat = c by omega, e, IntKind.wrap_i64]
  omega

def NumRel (xs : List Nat) (xv iv : Value) : Prop :=
  ∃ k : Nat, k ≤ xs.length ∧ iv = .int .i64 (k : Int) ∧ xv = .int .i64 ((num (xs.take k) : Nat) : Int)

set_option maxHeartbeats 1000000 in
theorem number_any {v : Value} {xs : List Nat} {w : World} (h : BArg w v xs) (hl : xs.length ≤ 6) :
    Calls Try.prog 33 #[v] w fun e w' => e = .returned (.int .i64 ((num xs : Nat) : Int)) ∧ w = w' := by
  obtain ⟨p, c, rfl⟩ := h.slice
  have hcell : ∀ k, k < xs.length → ∃ b o, p = some ⟨b, o, none⟩ ∧ w.cell? ⟨b, o + k, none⟩ = some (.int .u8 ((xs.getD k 0 : Nat) : Int)) := by
    intro k hk
    rcases h.2 with ⟨rfl, _⟩ | ⟨h0, b, o, c', e, hc, hr⟩
    · simp at hk
    · injection e with e1 e2 e3
      exact ⟨b, o, e1, (hr h0).2 k hk⟩
  obtain ⟨n, hn⟩ : ∃ n, n = xs.length := ⟨_, rfl⟩
  rw [← hn] at hl ⊢
  have Hn := Lib.hid hn
  have Hx := Lib.hid h.1
  have Hcell := Lib.hid hcell
  clear hn h hcell
  go_enter Try.func33, Try.ntmps33
  go_wp2_with fail
  go_loop [3, 8] (fun xv iv => NumRel xs xv iv) (fun _ iv => n - (intOf iv).toNat)
  case atStart => exact ⟨0, by omega, rfl, rfl⟩
  case round =>
    obtain ⟨k, hk, rfl, rfl⟩ := hrel
    rw [← Hn.out] at hk
    rcases Nat.lt_or_ge k n with g | g
    · have hd : decide ((k : Int) < (n : Int)) = true := decide_eq_true (by omega)
      obtain ⟨b, o, rfl, hcell⟩ := Hcell.out k (by rw [← Hn.out]; exact g)
      have hb := Crc.getD_byte Hx.out k
      have hnum := num_small (Crc.bytes_take Hx.out k) (by rw [List.length_take]; omega)
      have hsn : num (xs.take (k + 1)) = num (xs.take k) * 256 + xs.getD k 0 := by rw [take_snoc (by rw [← Hn.out]; exact g), num_snoc]
      obtain ⟨x, hxe⟩ : ∃ x, x = xs.getD k 0 := ⟨_, rfl⟩
      rw [← hxe] at hcell hb hsn
      obtain ⟨y, hye⟩ : ∃ y, y = num (xs.take k) := ⟨_, rfl⟩
      rw [← hye] at hnum hsn ⊢
      have hor := i64_or y x hnum hb
      rw [show ((y * 256 : Nat) : Int) = (y : Int) * 256 by omega] at hor
      have Hsn := Lib.hid hsn
      clear hxe hye hsn
      go_wp2_with fail
      go_round
      case rel => exact ⟨k + 1, by rw [← Hn.out]; omega, by go_num, by rw [Hsn.out]; exact congrArg (Value.int .i64) (by omega)⟩
      case measure => simp [intOf]; omega
    · obtain rfl : k = n := by omega
      have htake : xs.take k = xs := by rw [Hn.out, List.take_length]
      rw [htake]
      go_wp2_with fail
      go_ret
      exact ⟨rfl, rfl⟩

end Go.Proofs.Ytbpkjljienadiaa
