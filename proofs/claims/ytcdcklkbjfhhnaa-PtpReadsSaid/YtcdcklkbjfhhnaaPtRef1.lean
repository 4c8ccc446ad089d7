/- The reference's: does a number fit; its bytes. -/
import Derived.Test.YtcdcklkbjfhhnaaPtParse
namespace Go.Proofs.Ytcdcklkbjfhhnaa
open Go.RowKit Go.Joins

def mostOf (n : Nat) : Int := if n = 1 then 255 else if n = 2 then 65535 else if n = 6 then 281474976710655 else 0
def fitB (n : Nat) (x : Int) : Bool := n == 8 || decide (0 ≤ x ∧ x ≤ mostOf n)
theorem fits_8 (x : Int) : RetQ 28 #[.int .i64 x, .int .i64 8] (.bool true) := fun w => by
  go_enter Try.func28, Try.ntmps28
  go_wp2_with fail
  go_ret
  exact ⟨rfl, rfl⟩
def FtRel (n : Nat) (mv iv : Value) : Prop := ∃ i : Nat, i ≤ n ∧ iv = .int .i64 (i : Int) ∧ mv = .int .i64 ((256 ^ i : Nat) : Int)
set_option maxHeartbeats 1000000 in
theorem fits_low (x : Int) (n : Nat) (hn : n ≤ 6) (r : Bool) (hr : decide (0 ≤ x ∧ x < ((256 ^ n : Nat) : Int)) = r) : RetQ 28 #[.int .i64 x, .int .i64 (n : Int)] (.bool r) := fun w => by
  have Hr := Lib.hid hr
  have hn8 : ((n : Int) == 8) = false := by simp; omega
  clear hr
  go_enter Try.func28, Try.ntmps28
  go_wp2_with fail
  go_loop [5, 6] (fun mv iv => FtRel n mv iv) (fun _ iv => n - (intOf iv).toNat)
  case atStart => exact ⟨0, by omega, rfl, rfl⟩
  case round =>
    obtain ⟨i, hi, rfl, rfl⟩ := hrel
    have hb : 256 ^ i ≤ 256 ^ 6 := Nat.pow_le_pow_right (by decide) (by omega)
    have hs : 256 ^ (i + 1) = 256 ^ i * 256 := Nat.pow_succ _ _
    obtain ⟨M, hM⟩ : ∃ M, M = 256 ^ i := ⟨_, rfl⟩
    rw [← hM] at hb hs ⊢
    have hb2 : M ≤ 281474976710656 := hb
    have Hs := Lib.hid hs
    have HM := Lib.hid hM
    clear hb hs hM
    rcases Nat.lt_or_ge i n with g | g
    · have hd : decide ((i : Int) < (n : Int)) = true := decide_eq_true (by omega)
      go_wp2_with fail
      go_round
      case rel => exact ⟨i + 1, g, by go_num, by rw [Hs.out]; go_num⟩
      case measure => simp [intOf]; omega
    · obtain rfl : i = n := by omega
      rcases Int.lt_or_le x 0 with hx | hx
      · have e : r = false := by rw [← Hr.out]; exact decide_eq_false (by omega)
        subst e
        go_wp2_with fail
        go_ret
        exact ⟨rfl, rfl⟩
      · rcases Int.lt_or_le x (M : Int) with hx2 | hx2
        · have e : r = true := by rw [← Hr.out, ← HM.out]; exact decide_eq_true ⟨hx, hx2⟩
          subst e
          go_wp2_with fail
          go_ret
          exact ⟨rfl, rfl⟩
        · have e : r = false := by rw [← Hr.out, ← HM.out]; exact decide_eq_false (by omega)
          have hd3 : decide (x < (M : Int)) = false := decide_eq_false (by omega)
          subst e
          go_wp2_with fail
          go_ret
          exact ⟨rfl, rfl⟩
/-- Does a number fit? -/
theorem fits_ret (x : Int) (n : Nat) (hn : n = 1 ∨ n = 2 ∨ n = 6 ∨ n = 8) : RetQ 28 #[.int .i64 x, .int .i64 (n : Int)] (.bool (fitB n x)) := by
  rcases hn with rfl | rfl | rfl | rfl
  · exact fits_low x 1 (by omega) _ (by unfold fitB mostOf; simp only [show ((1 : Nat) == 8) = false from rfl, Bool.false_or, if_true]; congr 1; apply propext; constructor <;> (intro h; omega))
  · exact fits_low x 2 (by omega) _ (by unfold fitB mostOf; simp only [show ((2 : Nat) == 8) = false from rfl, Bool.false_or, show ¬ (2 : Nat) = 1 by omega, if_false, if_true]; congr 1; apply propext; constructor <;> (intro h; omega))
  · exact fits_low x 6 (by omega) _ (by unfold fitB mostOf; simp only [show ((6 : Nat) == 8) = false from rfl, Bool.false_or, show ¬ (6 : Nat) = 1 by omega, show ¬ (6 : Nat) = 2 by omega, if_false, if_true]; congr 1; apply propext; constructor <;> (intro h; omega))
  · exact fits_8 x

/-- A row of one byte of the call's own. -/
theorem OwnB.one (w : World) (z : Nat) (hz : z < 256) : OwnB w (w.alloc (.cells #[.int .u8 (z : Int)] 5)) (.slice (some ⟨w.heap.size, 0, none⟩) 1 1) [z] :=
  ⟨⟨rfl, .inr ⟨w.heap.size, 1, #[.int .u8 (z : Int)], rfl, Nat.le_refl _, heap_alloc_new w _, Nat.le_refl _, by decide, rfl, rfl⟩⟩, bAl (bRef w) _, fun x hx => by simp at hx; omega, by simp⟩
theorem ownB_eq {w0 w : World} {v : Value} {a c : List Nat} (h : OwnB w0 w v a) (e : a = c) : OwnB w0 w v c := e ▸ h
theorem be_drop {n i : Nat} {x : Int} (h : i < n) : (be n x).drop (n - (i + 1)) = ((x / 2 ^ (i * 8)) % 256).toNat :: (be n x).drop (n - i) := by
  have hl := be_len n x
  rw [List.drop_eq_getElem_cons (by rw [hl]; omega)]
  congr 1
  · simp only [be, List.getElem_map, List.getElem_range]
    rw [show n - 1 - (n - (i + 1)) = i by omega]
  · congr 1; omega
def BtRel (w : World) (n : Nat) (x : Int) (uv ov iv : Value) (wr : World) : Prop :=
  ∃ i : Nat, i ≤ n ∧ iv = .int .i64 (i : Int) ∧ uv = .int .u64 (((x % 18446744073709551616).toNat / 256 ^ i : Nat) : Int) ∧ OwnB w wr ov ((be n x).drop (n - i))

theorem byte_at (x : Int) (i : Nat) : (x % 18446744073709551616).toNat / 256 ^ i % 256 < 256 := Nat.mod_lt _ (by decide)
theorem byte_eq {x : Int} {i : Nat} (hi : i < 8) : (x % 18446744073709551616).toNat / 256 ^ i % 256 = ((x / 2 ^ (i * 8)) % 256).toNat := by
  have : i = 0 ∨ i = 1 ∨ i = 2 ∨ i = 3 ∨ i = 4 ∨ i = 5 ∨ i = 6 ∨ i = 7 := by omega
  rcases this with rfl | rfl | rfl | rfl | rfl | rfl | rfl | rfl <;> simp <;> omega
set_option maxHeartbeats 1000000 in
/-- The bytes of a number. -/
theorem bytes_any (x : Int) (n : Nat) (w : World) (hn : n ≤ 8) (_ : -9223372036854775808 ≤ x) (_ : x < 9223372036854775808) : Calls Try.prog 21 #[.int .i64 x, .int .i64 (n : Int)] w (OwnPost w (be n x)) := by
  have HO := Lib.hid (OwnB.start w)
  go_enter Try.func21, Try.ntmps21
  go_wp2_with fail
  go_loopw [5, 6, 7] (fun uv ov iv wr => BtRel w n x uv ov iv wr) (fun _ _ iv _ => n - (intOf iv).toNat)
  case atStart => exact ⟨0, by omega, rfl, by rw [Nat.pow_zero, Nat.div_one, IntKind.wrap_u64]; congr 1; omega, ownB_eq HO.out (by rw [Nat.sub_zero, List.drop_of_length_le (by rw [be_len]; exact Nat.le_refl _)])⟩
  case round =>
    obtain ⟨i, hi, rfl, rfl, hown⟩ := hrel
    have HW := Lib.hid hown
    clear hown
    have hU : (x % 18446744073709551616).toNat / 256 ^ i ≤ 18446744073709551615 := Nat.le_trans (Nat.div_le_self _ _) (by omega)
    have hsu : (x % 18446744073709551616).toNat / 256 ^ (i + 1) = (x % 18446744073709551616).toNat / 256 ^ i / 256 := by rw [Nat.pow_succ, Nat.div_div_eq_div_mul]
    have hby := Lib.hid (fun (h : i < n) => byte_eq (x := x) (i := i) (by omega))
    obtain ⟨U, hUe⟩ : ∃ U, U = (x % 18446744073709551616).toNat / 256 ^ i := ⟨_, rfl⟩
    rw [← hUe] at hU hsu hby ⊢
    have Hsu := Lib.hid hsu
    clear hUe hsu
    rcases Nat.lt_or_ge i n with g | g
    · have hd : decide ((i : Int) < (n : Int)) = true := decide_eq_true (by omega)
      have HL := Lib.hid (show [U % 256].length + ((be n x).drop (n - i)).length ≤ 140737488355328 by rw [List.length_drop, be_len]; simp only [List.length_singleton]; omega)
      go_wp2_with (at_builtin; refine wpList_app rfl _ _ rfl wr _ (.slice (some ⟨wr.heap.size, 0, none⟩) 1 1) u6 [U % 256] _ rfl rfl (OwnB.one wr (U % 256) (by omega)) (HW.out.alloc _).arg HL.out ?_; intro v3 w3 hown)
      go_roundw
      case rel => exact ⟨i + 1, g, by go_num, by rw [Hsu.out]; go_num, ownB_eq (OwnB.from HW.out.bel hown) (by rw [be_drop g, hby.out g]; rfl)⟩
      case measure => simp [intOf]; omega
    · obtain rfl : i = n := by omega
      go_wp2_with fail
      go_ret
      exact ⟨_, rfl, ownB_eq HW.out (by rw [Nat.sub_self, List.drop_zero])⟩

end Go.Proofs.Ytcdcklkbjfhhnaa
