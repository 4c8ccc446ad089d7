/- The reference's numbers out of ints, and back. -/
import Derived.Test.YtjkgeoipkcjobaaMdDived
namespace Go.Proofs.Ytjkgeoipkcjobaa.Dgs
open Go.RowKit

theorem abs_neg (x : Int) (m : Nat) (hx : -9223372036854775808 ≤ x) (hn : x < 0) (hm : -(x + 1) = (m : Int)) (w : World) :
    Calls Try.prog 22 #[.int .i64 x] w (NumPost w (m + 1)) := by
  have hm1 : m < 18446744073709551616 := by omega
  go_enter Try.func22, Try.ntmps22
  go_wp2_with (go_at_call 33; (with_reducible refine (of_any m hm1 _).mono ?_); rintro e w2 ⟨v2, rfl, hn2, hb2, hf2⟩)
  have HN := Lib.hid hn2
  have HB := Lib.hid hb2
  clear hn2 hb2 hf2
  go_wp2_with (go_at_call 32; (with_reducible refine (add_any (HN.out.below (below_alloc _ _)) (num_one _) (L := 5) (by omega) (by omega) (by omega)).mono ?_); rintro e w3 ⟨v3, rfl, hn3, hb3, hf3⟩)
  go_ret
  have hz : w.heap.size ≤ w2.heap.size := HB.out.size
  exact ⟨_, rfl, hn3, (HB.out.trans ((below_alloc w2 _).mono hz)).trans (hb3.mono (by simp; omega)), fun k hk => by have := hf3 k hk; simp at this; omega⟩

theorem abs_pos (m : Nat) (hm : m < 9223372036854775808) (w : World) :
    Calls Try.prog 22 #[.int .i64 (m : Int)] w (NumPost w m) := by
  have hm1 : m < 18446744073709551616 := by omega
  go_enter Try.func22, Try.ntmps22
  go_wp2_with (go_at_call 33; (with_reducible refine (of_any m hm1 _).mono ?_); rintro e w2 ⟨v2, rfl, hn2, hb2, hf2⟩)
  go_ret
  exact ⟨_, rfl, hn2, hb2, hf2⟩

theorem abs_any (x : Int) (h1 : -9223372036854775808 ≤ x) (h2 : x < 9223372036854775808) (w : World) :
    Calls Try.prog 22 #[.int .i64 x] w (NumPost w x.natAbs) := by
  rcases Int.lt_or_le x 0 with h | h
  · have := abs_neg x (x.natAbs - 1) h1 h (by omega) w
    rw [show x.natAbs - 1 + 1 = x.natAbs by omega] at this
    exact this
  · have := abs_pos x.natAbs (by omega) w
    rw [show ((x.natAbs : Nat) : Int) = x by omega] at this
    exact this

theorem abs_num (x : Int) (n : Nat) (hn : x.natAbs = n) (h1 : -9223372036854775808 ≤ x) (h2 : x < 9223372036854775808) (w : World) :
    Calls Try.prog 22 #[.int .i64 x] w (NumPost w n) := hn ▸ abs_any x h1 h2 w

def intOver (a : Nat) (minus : Bool) : Bool := if minus = true then decide (9223372036854775808 < a) else decide (9223372036854775807 < a)
def intVal (a : Nat) (minus : Bool) : Int := if minus = true then -(a : Int) else (a : Int)

theorem ret_ib {k : IntKind} {a b : Int} {x : Bool} (h : a = b) : Ending.returned (.tuple #[.int k a, .bool x]) = .returned (.tuple #[.int k b, .bool x]) := by rw [h]
theorem cmp_pos {a b : Nat} (h : b < a) : Dg.cmpN a b = 1 := Dg.cmpN_gt h
theorem cmp_npos {a b : Nat} (h : a ≤ b) : ∃ c : Int, Dg.cmpN a b = c ∧ c ≤ 0 := by
  rcases Nat.lt_or_ge a b with h1 | h1
  · exact ⟨-1, Dg.cmpN_lt h1, by omega⟩
  · exact ⟨0, Dg.cmpN_eq' (by omega), by omega⟩

theorem val_drop (xs : List Nat) (j : Nat) (hj : j < xs.length) : Dg.val (xs.drop j) = xs.getD j 0 + 65536 * Dg.val (xs.drop (j + 1)) := by
  rw [Dg.drop_eq_cons xs j hj, Dg.val_cons]
theorem val_drop_le (xs : List Nat) (j : Nat) : Dg.val (xs.drop j) ≤ Dg.val xs := by
  rcases Nat.lt_or_ge xs.length j with h | h
  · rw [List.drop_of_length_le (by omega)]; simp [Dg.val]
  · have e := Dg.val_split xs j h
    have : 1 * Dg.val (xs.drop j) ≤ 65536 ^ j * Dg.val (xs.drop j) := Nat.mul_le_mul_right _ (Dg.pow_pos j)
    omega

def IntRel (w : World) (xs : List Nat) (xv iv : Value) (wr : World) : Prop :=
  ∃ k : Nat, k ≤ xs.length ∧ xv = .int .u64 ((Dg.val (xs.drop k) : Nat) : Int) ∧ iv = .int .i64 ((k : Int) - 1) ∧ ∃ q, wr = w.drewN q

set_option maxHeartbeats 2000000 in
theorem int_over_false (va : Value) (a L : Nat) (w : World) (ha : Num w va a) (la : a < 65536 ^ L) (hL : L ≤ 50000) (h : 9223372036854775807 < a) :
    Calls Try.prog 28 #[va, .bool false] w fun e w' => e = .returned (.tuple #[.int .i64 0, .bool false]) ∧ Below w.heap.size w w' := by
  have HA := Lib.hid ha
  clear ha
  go_enter Try.func28, Try.ntmps28
  go_wp2_with (go_at_call 22; (with_reducible refine (abs_num (9223372036854775807) 9223372036854775807 (by omega) (by omega) (by omega) _).mono ?_); rintro e w2 ⟨v2, rfl, hn2, hb2, hf2⟩)
  have HN := Lib.hid hn2
  have HB := Lib.hid hb2
  clear hn2 hb2 hf2
  go_wp2_with (go_at_call 25; (with_reducible refine (cmp_at (HA.out.below HB.out) HN.out la (by omega) (cmp_pos h)).mono ?_); rintro e w3 ⟨rfl, q3, rfl⟩)
  go_ret2
  exact ⟨rfl, bDr' HB.out q3⟩

set_option maxHeartbeats 4000000 in
theorem int_ok_false (b o c : Nat) (xs : List Nat) (a : Nat) (w : World) (hx : Dg.IsD xs a) (hc : xs.length ≤ c) (rx : Rd w b o xs) (h : a ≤ 9223372036854775807) (R : Int) (hR : R = (a : Int)) :
    Calls Try.prog 28 #[.slice (some ⟨b, o, none⟩) xs.length c, .bool false] w fun e w' => e = .returned (.tuple #[.int .i64 R, .bool true]) ∧ Below w.heap.size w w' := by
  have lx : xs.length ≤ 4 := hx.len_le (by omega)
  have HA : Hid (Num w (.slice (some ⟨b, o, none⟩) xs.length c) a) := Lib.hid ⟨b, o, c, xs, rfl, hc, rx, hx⟩
  obtain ⟨n, hn⟩ : ∃ n, n = xs.length := ⟨_, rfl⟩
  rw [← hn] at lx HA ⊢
  have Hn := Lib.hid hn
  have Rx := Lib.hid rx
  have HRR := Lib.hid hR
  clear hn rx hc hR
  obtain ⟨d, hd, hd0⟩ := cmp_npos h
  have hab : a < 65536 ^ 5 := by omega
  go_enter Try.func28, Try.ntmps28
  go_wp2_with (go_at_call 22; (with_reducible refine (abs_num (9223372036854775807) 9223372036854775807 (by omega) (by omega) (by omega) _).mono ?_); rintro e w2 ⟨v2, rfl, hn2, hb2, hf2⟩)
  have HN := Lib.hid hn2
  have HB := Lib.hid hb2
  clear hn2 hb2 hf2
  go_wp2_with (go_at_call 25; (with_reducible refine (cmp_at (HA.out.below HB.out) HN.out hab (by omega) hd).mono ?_); rintro e w3 ⟨rfl, q3, rfl⟩)
  go_loopw [6, 7] (fun xv iv wr => IntRel w2 xs xv iv wr) (fun _ iv _ => (intOf iv + 1).toNat)
  case atStart => exact ⟨n, by rw [Hn.out]; exact Nat.le_refl _, by rw [Hn.out, List.drop_length]; rfl, rfl, q3, rfl⟩
  case round =>
    obtain ⟨k, hk, rfl, hiv, q4, rfl⟩ := hrel
    rw [← Hn.out] at hk
    rcases Nat.eq_zero_or_pos k with h0 | h0
    · subst h0
      obtain rfl : u7 = .int .i64 (-1) := hiv
      have e0 : Dg.val (xs.drop 0) = a := by rw [List.drop_zero]; exact hx.2.1
      rw [e0]
      clear e0
      go_wp2_with fail
      go_ret2
      exact ⟨ret_ib (by rw [HRR.out]), bDr' HB.out _⟩
    · obtain ⟨j, rfl⟩ : ∃ j, k = j + 1 := ⟨k - 1, by omega⟩
      obtain rfl : u7 = .int .i64 (j : Int) := by rw [hiv, show ((j + 1 : Nat) : Int) - 1 = (j : Int) from by omega]
      have e1 := val_drop xs j (by rw [← Hn.out]; omega)
      have e2 := val_drop_le xs j
      rw [hx.2.1] at e2
      have cx := Rx.out.of_below HB.out (k := j) (by rw [← Hn.out]; omega)
      have sx := hx.1.getD j
      obtain ⟨x, hxe⟩ : ∃ x, x = xs.getD j 0 := ⟨_, rfl⟩
      rw [← hxe] at cx sx e1
      obtain ⟨X, hX⟩ : ∃ X, X = Dg.val (xs.drop (j + 1)) := ⟨_, rfl⟩
      rw [← hX] at e1 ⊢
      have hXb : 65536 * X + x ≤ 9223372036854775808 := by omega
      have E1 := Lib.hid e1
      clear e1 e2 hxe hX h0
      go_wp2_with fail
      go_roundw
      case rel => exact ⟨j, by rw [← Hn.out]; omega, by rw [E1.out]; congr 1; omega, rfl, _, rfl⟩
      case measure => simp [intOf]

set_option maxHeartbeats 2000000 in
theorem int_over_true (va : Value) (a L : Nat) (w : World) (ha : Num w va a) (la : a < 65536 ^ L) (hL : L ≤ 50000) (h : 9223372036854775808 < a) :
    Calls Try.prog 28 #[va, .bool true] w fun e w' => e = .returned (.tuple #[.int .i64 0, .bool false]) ∧ Below w.heap.size w w' := by
  have HA := Lib.hid ha
  clear ha
  go_enter Try.func28, Try.ntmps28
  go_wp2_with (go_at_call 22; (with_reducible refine (abs_num (-9223372036854775808) 9223372036854775808 (by omega) (by omega) (by omega) _).mono ?_); rintro e w2 ⟨v2, rfl, hn2, hb2, hf2⟩)
  have HN := Lib.hid hn2
  have HB := Lib.hid hb2
  clear hn2 hb2 hf2
  go_wp2_with (go_at_call 25; (with_reducible refine (cmp_at (HA.out.below HB.out) HN.out la (by omega) (cmp_pos h)).mono ?_); rintro e w3 ⟨rfl, q3, rfl⟩)
  go_ret2
  exact ⟨rfl, bDr' HB.out q3⟩

set_option maxHeartbeats 4000000 in
theorem int_ok_true (b o c : Nat) (xs : List Nat) (a : Nat) (w : World) (hx : Dg.IsD xs a) (hc : xs.length ≤ c) (rx : Rd w b o xs) (h : a ≤ 9223372036854775808) (R : Int) (hR : R = -(a : Int)) :
    Calls Try.prog 28 #[.slice (some ⟨b, o, none⟩) xs.length c, .bool true] w fun e w' => e = .returned (.tuple #[.int .i64 R, .bool true]) ∧ Below w.heap.size w w' := by
  have lx : xs.length ≤ 4 := hx.len_le (by omega)
  have HA : Hid (Num w (.slice (some ⟨b, o, none⟩) xs.length c) a) := Lib.hid ⟨b, o, c, xs, rfl, hc, rx, hx⟩
  obtain ⟨n, hn⟩ : ∃ n, n = xs.length := ⟨_, rfl⟩
  rw [← hn] at lx HA ⊢
  have Hn := Lib.hid hn
  have Rx := Lib.hid rx
  have HRR := Lib.hid hR
  clear hn rx hc hR
  obtain ⟨d, hd, hd0⟩ := cmp_npos h
  have hab : a < 65536 ^ 5 := by omega
  go_enter Try.func28, Try.ntmps28
  go_wp2_with (go_at_call 22; (with_reducible refine (abs_num (-9223372036854775808) 9223372036854775808 (by omega) (by omega) (by omega) _).mono ?_); rintro e w2 ⟨v2, rfl, hn2, hb2, hf2⟩)
  have HN := Lib.hid hn2
  have HB := Lib.hid hb2
  clear hn2 hb2 hf2
  go_wp2_with (go_at_call 25; (with_reducible refine (cmp_at (HA.out.below HB.out) HN.out hab (by omega) hd).mono ?_); rintro e w3 ⟨rfl, q3, rfl⟩)
  go_loopw [6, 7] (fun xv iv wr => IntRel w2 xs xv iv wr) (fun _ iv _ => (intOf iv + 1).toNat)
  case atStart => exact ⟨n, by rw [Hn.out]; exact Nat.le_refl _, by rw [Hn.out, List.drop_length]; rfl, rfl, q3, rfl⟩
  case round =>
    obtain ⟨k, hk, rfl, hiv, q4, rfl⟩ := hrel
    rw [← Hn.out] at hk
    rcases Nat.eq_zero_or_pos k with h0 | h0
    · subst h0
      obtain rfl : u7 = .int .i64 (-1) := hiv
      have e0 : Dg.val (xs.drop 0) = a := by rw [List.drop_zero]; exact hx.2.1
      rw [e0]
      clear e0
      go_wp2_with fail
      go_ret2
      exact ⟨ret_ib (by rw [HRR.out]; simp only [IntKind.wrap_u64]; unfold wrap64; omega), bDr' HB.out _⟩
    · obtain ⟨j, rfl⟩ : ∃ j, k = j + 1 := ⟨k - 1, by omega⟩
      obtain rfl : u7 = .int .i64 (j : Int) := by rw [hiv, show ((j + 1 : Nat) : Int) - 1 = (j : Int) from by omega]
      have e1 := val_drop xs j (by rw [← Hn.out]; omega)
      have e2 := val_drop_le xs j
      rw [hx.2.1] at e2
      have cx := Rx.out.of_below HB.out (k := j) (by rw [← Hn.out]; omega)
      have sx := hx.1.getD j
      obtain ⟨x, hxe⟩ : ∃ x, x = xs.getD j 0 := ⟨_, rfl⟩
      rw [← hxe] at cx sx e1
      obtain ⟨X, hX⟩ : ∃ X, X = Dg.val (xs.drop (j + 1)) := ⟨_, rfl⟩
      rw [← hX] at e1 ⊢
      have hXb : 65536 * X + x ≤ 9223372036854775808 := by omega
      have E1 := Lib.hid e1
      clear e1 e2 hxe hX h0
      go_wp2_with fail
      go_roundw
      case rel => exact ⟨j, by rw [← Hn.out]; omega, by rw [E1.out]; congr 1; omega, rfl, _, rfl⟩
      case measure => simp [intOf]

end Go.Proofs.Ytjkgeoipkcjobaa.Dgs
