/- Package fcs: which bits of a check are wrong. -/
import Derived.Test.YtbpkjljienadiaaClose
namespace Go.Proofs.Ytbpkjljienadiaa
open Go.RowKit Go.Joins

def acc (s : Nat) (qs : List Nat) : Nat → Nat
  | 0 => s
  | j + 1 => acc s qs j ^^^ (2 ^ (8 * j) * qs.getD j 0)
theorem acc_lt {s : Nat} {qs : List Nat} (hs : s < 4294967296) (hq : Crc.Bytes qs) : ∀ j, j ≤ 4 → acc s qs j < 4294967296
  | 0, _ => hs
  | j + 1, h => by
    refine Crc.xor_lt _ _ (acc_lt hs hq j (by omega)) ?_
    have hb := Crc.getD_byte hq j
    have h1 : 2 ^ (8 * j) * qs.getD j 0 ≤ 2 ^ (8 * j) * 255 := Nat.mul_le_mul_left _ (by omega)
    have h2 : 2 ^ (8 * j) ≤ 2 ^ 24 := Nat.pow_le_pow_right (by omega) (by omega)
    omega
theorem acc_four (s a b c d : Nat) : acc s [a, b, c, d] 4 = s ^^^ Crc.V [a, b, c, d] := by
  show (((s ^^^ 1 * a) ^^^ 2 ^ 8 * b) ^^^ 2 ^ 16 * c) ^^^ 2 ^ 24 * d = s ^^^ (a ^^^ 2 ^ 8 * (b ^^^ 2 ^ 8 * (c ^^^ 2 ^ 8 * (d ^^^ 256 * 0))))
  simp only [Nat.mul_zero, Nat.xor_zero, Crc.pow_mul_xor, Nat.one_mul, ← Nat.mul_assoc, Nat.xor_assoc, ← Nat.pow_add]

def WrongRel (s : Nat) (qs : List Nat) (sv iv : Value) : Prop :=
  ∃ j : Nat, j ≤ 4 ∧ iv = .int .i64 (j : Int) ∧ sv = .int .u32 ((acc s qs j : Nat) : Int)

theorem wrong_go {s x y q j : Nat} {qs : List Nat} {qi ji : Int} (hj : j < 4) (hji : ji = ((j + 1 : Nat) : Int)) (hy : y = acc s qs (j + 1)) (hxe : y = x ^^^ (2 ^ (8 * j) * q)) (hx : x < 4294967296) (hq : 2 ^ (8 * j) * q < 4294967296) (hqi : qi = ((2 ^ (8 * j) * q : Nat) : Int)) :
    WrongRel s qs (.int .u32 (bits .xor .u32 (x : Int) qi)) (.int .i64 ji) := by
  subst hji hqi
  exact ⟨j + 1, by omega, rfl, by rw [u32_xor _ _ hx hq, ← hxe, hy]⟩

set_option maxHeartbeats 2000000 in
theorem wrong_some (b o c m : Nat) (ps qs : List Nat) (w : World) (hm : ps.length = m) (hq : qs.length = 4) (hp : Crc.Bytes ps) (hqb : Crc.Bytes qs) (hc : m + 4 ≤ c) (hl : m ≤ 140737488355000) (hr : Rd w b o (ps ++ qs)) :
    Calls Try.prog 37 #[.slice (some ⟨b, o, none⟩) (m + 4) c] w fun e w' => e = .returned (.int .u32 ((acc (Crc.sum ps) qs 4 : Nat) : Int)) ∧ Below w.heap.size w w' := by
  have hcm : ¬ c = m := by omega
  have hcm2 : (c = m) = False := eq_false hcm
  have hs := Crc.sum_lt ps hp
  have ha : BArg w (.slice (some ⟨b, o, none⟩) m c) ps := by
    refine ⟨hp, ?_⟩
    rcases Nat.eq_zero_or_pos ps.length with h0 | h0
    · exact .inl ⟨List.eq_nil_of_length_eq_zero h0, _, c, by rw [← hm, h0], fun e => by cases e⟩
    · refine .inr ⟨h0, b, o, c, by rw [hm], by omega, ?_⟩
      have := hr.take ps.length
      rwa [List.take_left] at this
  have HS := sum_any ha (by omega)
  unfold SumPost at HS
  have HS' := Lib.hid HS
  have hcell : ∀ j, j < 4 → w.cell? ⟨b, o + m + j, none⟩ = some (.int .u8 ((qs.getD j 0 : Nat) : Int)) := by
    intro j hj
    have := (hr.drop m) (by simp [hm]; omega)
    rw [← hm, List.drop_left] at this
    rw [← hm]
    exact this.2 j (by omega)
  have hlt : b < w.heap.size := (hr (by simp; omega)).1
  have Hcell := Lib.hid hcell
  have Hlt := Lib.hid hlt
  have HQ := Lib.hid hqb
  obtain ⟨s, hse⟩ : ∃ s, s = Crc.sum ps := ⟨_, rfl⟩
  rw [← hse] at hs HS' ⊢
  have Hsl := Lib.hid hs
  clear ha HS hcell hlt hse hr hp hm hq hqb hcm2 hs
  go_enter Try.func37, Try.ntmps37
  go_wp2_with (first
    | (go_at_call 34; (with_reducible refine HS'.out.mono ?_); rintro e w1 ⟨rfl, hb⟩; have HB := Lib.hid hb; clear hb))
  go_loop [4, 18] (fun sv iv => WrongRel s qs sv iv) (fun _ iv => 4 - (intOf iv).toNat)
  case atStart => exact ⟨0, by omega, rfl, rfl⟩
  case round =>
    obtain ⟨j, hj, rfl, rfl⟩ := hrel
    rcases Nat.lt_or_ge j 4 with g | g
    · have hcell := (HB.out.cell (p := ⟨b, o + m + j, none⟩) Hlt.out).trans (Hcell.out j g)
      have hx := acc_lt Hsl.out HQ.out j (by omega)
      have hx1 := acc_lt Hsl.out HQ.out (j + 1) (by omega)
      have hxe : acc s qs (j + 1) = acc s qs j ^^^ (2 ^ (8 * j) * qs.getD j 0) := rfl
      have hqj := Crc.getD_byte HQ.out j
      obtain ⟨x, hxx⟩ : ∃ x, x = acc s qs j := ⟨_, rfl⟩
      obtain ⟨y, hyy⟩ : ∃ y, y = acc s qs (j + 1) := ⟨_, rfl⟩
      obtain ⟨q, hqq⟩ : ∃ q, q = qs.getD j 0 := ⟨_, rfl⟩
      rw [← hxx] at hx hxe ⊢
      rw [← hyy] at hx1 hxe
      rw [← hqq] at hxe hcell hqj
      have HXE := Lib.hid hxe
      have HYY := Lib.hid hyy
      clear hxe hyy hxx hqq
      have hj4 : j = 0 ∨ j = 1 ∨ j = 2 ∨ j = 3 := by omega
      rcases hj4 with rfl | rfl | rfl | rfl
      · rw [Nat.add_zero] at hcell
        go_wp2_with fail
        go_round
        case rel => exact wrong_go (j := 0) (by omega) rfl HYY.out HXE.out hx (by omega) (by omega)
        case measure => simp [intOf]
      · go_wp2_with fail
        go_round
        case rel => exact wrong_go (j := 1) (by omega) rfl HYY.out HXE.out hx (by omega) (by omega)
        case measure => simp [intOf]
      · go_wp2_with fail
        go_round
        case rel => exact wrong_go (j := 2) (by omega) rfl HYY.out HXE.out hx (by omega) (by omega)
        case measure => simp [intOf]
      · go_wp2_with fail
        go_round
        case rel => exact wrong_go (j := 3) (by omega) rfl HYY.out HXE.out hx (by omega) (by omega)
        case measure => simp [intOf]
    · obtain rfl : j = 4 := by omega
      go_wp2_with fail
      go_ret
      exact ⟨rfl, HB.out⟩

theorem split4 {xs : List Nat} (h4 : 4 ≤ xs.length) : ∃ ps a b c d, xs = ps ++ [a, b, c, d] ∧ ps.length = xs.length - 4 := by
  have hd : (xs.drop (xs.length - 4)).length = 4 := by rw [List.length_drop]; omega
  have e := List.take_append_drop (xs.length - 4) xs
  generalize xs.drop (xs.length - 4) = qs at hd e
  match qs, hd with
  | [a, b, c, d], _ => exact ⟨_, a, b, c, d, e.symm, by rw [List.length_take]; omega⟩
theorem wrong_app4 (ps : List Nat) (a b c d : Nat) : Crc.wrong (ps ++ [a, b, c, d]) = acc (Crc.sum ps) [a, b, c, d] 4 := by
  rw [acc_four]
  unfold Crc.wrong
  have e : (ps ++ [a, b, c, d]).length - 4 = ps.length := by rw [List.length_append]; simp
  rw [e, List.take_left, List.drop_left]

/-- Which bits of the check behind the others don't fit. -/
theorem wrong_any {v : Value} {xs : List Nat} {w : World} (h : BArg w v xs) (h4 : 4 ≤ xs.length) (hl : xs.length ≤ 140737488355000) :
    Calls Try.prog 37 #[v] w fun e w' => e = .returned (.int .u32 ((Crc.wrong xs : Nat) : Int)) ∧ Below w.heap.size w w' := by
  obtain ⟨h1, h2⟩ := h
  rcases h2 with ⟨rfl, _⟩ | ⟨h0, b, o, c, rfl, hc, hr⟩
  · simp at h4
  obtain ⟨ps, q0, q1, q2, q3, rfl, hp⟩ := split4 h4
  have e : (ps ++ [q0, q1, q2, q3]).length = ps.length + 4 := by rw [List.length_append]; rfl
  rw [wrong_app4, e]
  exact wrong_some b o c ps.length ps [q0, q1, q2, q3] w rfl rfl (fun x hx => h1 x (List.mem_append_left _ hx)) (fun x hx => h1 x (List.mem_append_right _ hx)) (by omega) (by omega) hr

end Go.Proofs.Ytbpkjljienadiaa
