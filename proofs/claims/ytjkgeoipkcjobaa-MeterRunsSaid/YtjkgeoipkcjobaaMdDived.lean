/- The reference's quotient, bit by bit. -/
import Derived.Test.YtjkgeoipkcjobaaMdMul
import Derived.Test.YtjkgeoipkcjobaaMdDSub
import Derived.Test.YtjkgeoipkcjobaaMdCmp
import Derived.Test.YtjkgeoipkcjobaaMdBitm
import Derived.Laws.BitsAllLaws
import Derived.Laws.BitsLemmas
namespace Go.Proofs.Ytjkgeoipkcjobaa.Dgs
open Go.RowKit

def DivSt (w : World) (n a b p : Nat) (rv : Value) (wr : World) : Prop :=
  ∃ (Q r : Nat) (qs : List Nat), Arr w wr w.heap.size qs ∧ qs.length = n ∧ Num wr rv r ∧ Dg.val qs = Q * 2 ^ p ∧ a / 2 ^ p = Q * b + r ∧ r < b
def DivOut (w : World) (n a b : Nat) (rv iv : Value) (wr : World) : Prop :=
  ∃ i : Nat, i ≤ n ∧ iv = .int .i64 ((i : Int) - 1) ∧ DivSt w n a b (16 * i) rv wr
def DivIn (w : World) (n a b i : Nat) (rv bv : Value) (wr : World) : Prop :=
  ∃ j : Nat, j ≤ 16 ∧ bv = .int .i64 ((j : Int) - 1) ∧ DivSt w n a b (16 * i + j) rv wr
theorem div_start {w : World} {xs : List Nat} {a b n : Nat} (hx : Dg.IsD xs a) (hn : n = xs.length) (hb : 0 < b) :
    DivSt w n a b (16 * n) (.slice (some ⟨w.heap.size + 1, 0, none⟩) 0 0) ((w.alloc (.cells (zeros n) 3)).alloc (.cells #[] 3)) := by
  have ha : Arr w (w.alloc (.cells (zeros n) 3)) w.heap.size (List.replicate n 0) := ⟨heap_alloc_new w _, (Below.refl _ _).alloc (Nat.le_refl _) _, Nat.le_refl _, Dg.small_replicate _⟩
  refine ⟨0, 0, _, ha.below ((Below.refl _ _).alloc (Nat.le_refl _) _), by simp, ⟨w.heap.size + 1, 0, 0, [], rfl, by simp, fun h => absurd h (by simp), Dg.IsD.nil⟩, by rw [Dg.val_replicate]; simp, ?_, hb⟩
  rw [← Dg.pow16, hn, Nat.div_eq_of_lt hx.lt]; simp

theorem below_alloc (w : World) (o : Obj) : Below w.heap.size w (w.alloc o) := (Below.refl _ _).alloc (Nat.le_refl _) _
theorem num_one (w : World) : Num (w.alloc (.cells #[.int .i64 1] 3)) (.slice (some ⟨w.heap.size, 0, none⟩) 1 1) 1 := by
  refine ⟨w.heap.size, 0, 1, [1], rfl, by simp, fun _ => ⟨by simp, fun k hk => ?_⟩, ⟨fun d hd => by simp at hd; omega, rfl, fun _ => by simp⟩⟩
  have : k = 0 := by simpa using hk
  subst this
  simp
theorem one_lt (L : Nat) : 1 < 65536 ^ (L + 1) := by rw [Dg.pow_succ']; have := Dg.pow_pos L; omega
theorem cmp_ge {x b : Nat} (h : b ≤ x) : ∃ c : Int, Dg.cmpN x b = c ∧ 0 ≤ c := by
  rcases Nat.lt_or_ge b x with h1 | h1
  · exact ⟨1, Dg.cmpN_gt h1, by omega⟩
  · exact ⟨0, Dg.cmpN_eq' (by omega), by omega⟩
theorem cmp_lt {x b : Nat} (h : x < b) : Dg.cmpN x b = -1 := Dg.cmpN_lt h
theorem cmp_at {va vb : Value} {a b L : Nat} {c : Int} {w : World} (ha : Num w va a) (hb : Num w vb b) (la : a < 65536 ^ L) (hL : L ≤ 100000) (h : Dg.cmpN a b = c) :
    Calls Try.prog 25 #[va, vb] w (CmpPost w c) := h ▸ cmp_any ha hb la hL
theorem bit_of (x j : Nat) (hx : x < 9223372036854775808) : bits BinOp.and IntKind.i64 ((x : Int) / 2 ^ j) 1 = ((x / 2 ^ j % 2 : Nat) : Int) := by
  have e : (x : Int) / 2 ^ j = ((x / 2 ^ j : Nat) : Int) := by
    rw [Int.natCast_ediv, Int.natCast_pow]; rfl
  rw [e]
  have hl : x / 2 ^ j ≤ x := Nat.div_le_self _ _
  generalize x / 2 ^ j = y at *
  show IntKind.i64.wrap ((BitVec.ofInt 64 (y : Int) &&& BitVec.ofInt 64 1).toNat : Int) = _
  rw [BitVec.toNat_and, show (BitVec.ofInt 64 1).toNat = 1 from by decide, Nat.and_one_is_mod, BitVec.ofInt_natCast, BitVec.toNat_ofNat]
  rw [show y % 2 ^ 64 = y from Nat.mod_eq_of_lt (by omega)]
  exact IntWalk.i64_in _ (by omega)
theorem one_shl (j : Nat) (hj : j ≤ 15) : wrap64 (2 ^ j) = ((2 ^ j : Nat) : Int) ∧ IntKind.i64.wrap (2 ^ j) = ((2 ^ j : Nat) : Int) ∧ 2 ^ j ≤ 32768 := by
  have h : 2 ^ j ≤ 2 ^ 15 := Nat.pow_le_pow_right (by omega) hj
  have e : ((2 : Int) ^ j) = ((2 ^ j : Nat) : Int) := by simp
  rw [e]
  have h2 : 2 ^ j ≤ 32768 := h
  clear h e
  generalize 2 ^ j = P at *
  exact ⟨IntWalk.wrap64_in _ ⟨by omega, by omega⟩, IntWalk.i64_in _ (by omega), h2⟩
theorem div_eq {a b Q r t i j : Nat} {xs : List Nat} (hx : Dg.IsD xs a) (hj : j < 16) (hq : a / 2 ^ (16 * i + (j + 1)) = Q * b + r) (ht : xs.getD i 0 / 2 ^ j % 2 = t) : a / 2 ^ (16 * i + j) = 2 * (Q * b + r) + t := by
  have h1 := Dg.bit_eq hx.1 i j hj
  rw [hx.2.1, ht] at h1
  have h2 := Dg.shift_step h1.symm
  rw [Nat.add_assoc, hq] at h2
  exact h2
theorem div_keep {w w1 : World} {n a b Q r t i j : Nat} {qs : List Nat} {v : Value} (hlt : r + r + t < b) (hl : qs.length = n) (hv : Dg.val qs = Q * 2 ^ (16 * i + (j + 1))) (he : a / 2 ^ (16 * i + j) = 2 * (Q * b + r) + t)
    (hn : Num w1 v (r + r + t)) (ha : Arr w w1 w.heap.size qs) : DivSt w n a b (16 * i + j) v w1 :=
  ⟨2 * Q, r + r + t, qs, ha, hl, hn, Dg.quo_keep hv, by rw [he, Nat.mul_add, ← Nat.mul_assoc]; omega, hlt⟩
theorem div_take {w w1 : World} {n a b Q r t i j : Nat} {qs : List Nat} {v : Value} (hge : b ≤ r + r + t) (hl : qs.length = n) (hi : i < n) (hv : Dg.val qs = Q * 2 ^ (16 * i + (j + 1))) (he : a / 2 ^ (16 * i + j) = 2 * (Q * b + r) + t)
    (hlt : r + r + t - b < b) (hn : Num w1 v (r + r + t - b)) (ha : Arr w w1 w.heap.size (qs.set i (qs.getD i 0 + 2 ^ j))) : DivSt w n a b (16 * i + j) v w1 :=
  ⟨2 * Q + 1, r + r + t - b, _, ha, by simp [hl], hn, Dg.quo_set (by omega) hv, by rw [he, Nat.mul_add, Nat.add_mul, ← Nat.mul_assoc]; omega, hlt⟩

theorem div_end {a b Q r v : Nat} (hv : v = Q * 2 ^ (16 * 0)) (hq : a / 2 ^ (16 * 0) = Q * b + r) (hr : r < b) : v = a / b ∧ r = a % b := by
  rw [Nat.mul_zero, Nat.pow_zero, Nat.mul_one] at hv
  rw [Nat.mul_zero, Nat.pow_zero, Nat.div_one] at hq
  subst hv hq
  rw [Nat.mul_comm v b, Nat.mul_add_div (by omega), Nat.mul_add_mod, Nat.div_eq_of_lt hr, Nat.mod_eq_of_lt hr]
  exact ⟨by omega, rfl⟩

def DivPost (w : World) (a b : Nat) (e : Ending) (w' : World) : Prop := ∃ vq vr, e = .returned (.tuple #[vq, vr]) ∧ Num w' vq (a / b) ∧ Num w' vr (a % b) ∧ Below w.heap.size w w'

set_option maxHeartbeats 4000000 in
theorem div_core (b1 o1 c1 : Nat) (vb : Value) (xs : List Nat) (a b L : Nat) (w : World) (hx : Dg.IsD xs a) (lx : xs.length ≤ 50000) (rx : Rd w b1 o1 xs) (hb : Num w vb b) (hb0 : 0 < b) (lb : b < 65536 ^ L) (hL : L ≤ 50000) :
    Calls Try.prog 27 #[.slice (some ⟨b1, o1, none⟩) xs.length c1, vb] w (DivPost w a b) := by
  obtain ⟨n, hn⟩ : ∃ n, n = xs.length := ⟨_, rfl⟩
  rw [← hn] at lx ⊢
  have Hn := Lib.hid hn
  have Rx := Lib.hid rx
  have Hb := Lib.hid hb
  have hmk := fun W => make_zeros n (by omega) W
  clear hn rx hb
  go_enter Try.func27, Try.ntmps27
  go_wp2_with fail
  go_loopw [7, 8] (fun rv iv wr => DivOut w n a b rv iv wr) (fun _ iv _ => (intOf iv + 1).toNat)
  case atStart => exact ⟨n, Nat.le_refl _, rfl, div_start hx Hn.out hb0⟩
  case round =>
    obtain ⟨k, hk, hiv, hst⟩ := hrel
    have Hst := Lib.hid hst
    clear hst
    rcases Nat.eq_zero_or_pos k with h0 | h0
    · subst h0
      obtain rfl : u8 = .int .i64 (-1) := hiv
      obtain ⟨Q, r, qs, ha, hlq, hr, hv, hq, hrb⟩ := Hst.out
      obtain ⟨e1, e2⟩ := div_end hv hq hrb
      have HA := Lib.hid ha
      have HR := Lib.hid hr
      have HL := Lib.hid hlq
      have E1 := Lib.hid e1
      have E2 := Lib.hid e2
      clear ha hr hlq hv hq e1 e2 Hst
      go_wp2_with (go_at_call 34; (with_reducible refine (trim_arr HA.out HL.out (by omega)).mono ?_); rintro e w4 ⟨v4, rfl, hn4, hb4, hf4⟩)
      go_ret2
      exact ⟨_, _, rfl, by rw [← E1.out]; exact hn4, by rw [← E2.out]; exact HR.out.below hb4, HA.out.bel.trans (hb4.mono HA.out.bel.size)⟩
    · obtain ⟨i, rfl⟩ : ∃ i, k = i + 1 := ⟨k - 1, by omega⟩
      obtain rfl : u8 = .int .i64 (i : Int) := by rw [hiv, show ((i + 1 : Nat) : Int) - 1 = (i : Int) from by omega]
      clear hiv h0
      go_wp2_with fail
      obtain ⟨wo, rfl⟩ : ∃ wo : World, wo = wr := ⟨_, rfl⟩
      go_loopw [7, 9] (fun rv bv wr => DivIn w n a b i rv bv wr) (fun _ bv _ => (intOf bv + 1).toNat)
      case atStart => exact ⟨16, Nat.le_refl _, rfl, by have := Hst.out; rw [Nat.mul_succ] at this; exact this⟩
      case round =>
        obtain ⟨k2, hk2, hbv, hst2⟩ := hrel
        have Hst2 := Lib.hid hst2
        clear hst2 Hst
        rcases Nat.eq_zero_or_pos k2 with h0 | h0
        · subst h0
          obtain rfl : u9 = .int .i64 (-1) := hbv
          go_wp2_with fail
          go_roundw
          case rel => exact ⟨i, by omega, rfl, Hst2.out⟩
          case measure => simp [intOf]
        · obtain ⟨j, rfl⟩ : ∃ j, k2 = j + 1 := ⟨k2 - 1, by omega⟩
          obtain rfl : u9 = .int .i64 (j : Int) := by rw [hbv, show ((j + 1 : Nat) : Int) - 1 = (j : Int) from by omega]
          clear hbv h0
          obtain ⟨Q, r, qs, ha, hlq, hr, hv, hq, hrb⟩ := Hst2.out
          clear Hst2
          obtain ⟨x, hxe⟩ : ∃ x, x = xs.getD i 0 := ⟨_, rfl⟩
          have Hx := Lib.hid hxe
          have hxs := hx.1.getD i
          rw [← hxe] at hxs
          have HA := Lib.hid ha
          have HR := Lib.hid hr
          have HV := Lib.hid hv
          have HL := Lib.hid hlq
          obtain ⟨t, ht⟩ : ∃ t, t = x / 2 ^ j % 2 := ⟨_, rfl⟩
          have HE : Hid (a / 2 ^ (16 * i + j) = 2 * (Q * b + r) + t) := Lib.hid (div_eq hx (show j < 16 by omega) hq (by rw [← hxe]; exact ht.symm))
          have eb := bit_of x j (show x < 9223372036854775808 by omega)
          rw [← ht] at eb
          have ht2 : t = 0 ∨ t = 1 := by omega
          have pj := one_shl j (show j ≤ 15 by omega)
          obtain ⟨P, hP⟩ : ∃ P, P = 2 ^ j := ⟨_, rfl⟩
          rw [← hP] at pj
          have hPb := pj.2.2
          have pj1 := pj.1
          have pj2 := pj.2.1
          have hd := Dg.quo_digit HA.out.2.2.2 (show j < 16 by omega) hv
          rw [← hP] at hd
          obtain ⟨d, hde⟩ : ∃ d, d = qs.getD i 0 := ⟨_, rfl⟩
          rw [← hde] at hd
          have HD := Lib.hid hde
          have HP := Lib.hid hP
          have hlb : r + r + 1 < 65536 ^ (L + 1) := by rw [Dg.pow_succ']; omega
          have LB := Lib.hid lb
          have LB2 := Lib.hid hlb
          have i1 : (0 : Int) ≤ (i : Int) := by omega
          have i2 : (i : Int) < (n : Int) := by omega
          clear ha hr hv hq hlq hxe ht pj hP hde hlb
          rcases ht2 with rfl | rfl
          · by_cases hge : b ≤ r + r + 0
            · go_wp2_with (go_at_call 32; (with_reducible refine (add_any HR.out HR.out (L := L) (Nat.lt_trans hrb LB.out) (Nat.lt_trans hrb LB.out) (by omega)).mono ?_); rintro e w2 ⟨v2, rfl, hn2, hb2, hf2⟩; have HA2 := Lib.hid (HA.out.below hb2); have cx2 := Rx.out.of_below HA2.out.2.1 (k := i) (by rw [← Hn.out]; omega); rw [← Hx.out] at cx2)
              have HN2 : Hid (Num w2 v2 (r + r + 0)) := Lib.hid hn2
              clear hn2
              obtain ⟨c, hcmp, hc0⟩ := cmp_ge hge
              go_wp2_with (go_at_call 25; (with_reducible refine (cmp_at HN2.out (Hb.out.below HA2.out.bel) (L := L + 1) (by have := LB2.out; omega) (by omega) hcmp).mono ?_); rintro e w4 ⟨rfl, q4, rfl⟩)
              go_wp2_with (go_at_call 26; (with_reducible refine (sub_any (HN2.out.drewN q4) ((Hb.out.below HA2.out.bel).drewN q4) hge (L := L + 1) (by have := LB2.out; omega) (by omega)).mono ?_); rintro e w5 ⟨v5, rfl, hn5, hb5, hf5⟩; have HA5 := Lib.hid ((HA2.out.drewN q4).below hb5); have cq := HA5.out.cell (k := i) (by rw [HL.out]; omega); rw [← HD.out] at cq; have fq := HA5.out.frozen i)
              go_roundw
              case rel => exact ⟨j, by omega, rfl, div_take hge HL.out (by omega) HV.out HE.out (by omega) (hn5.set hf5 HA2.out.lt) (by rw [← HD.out, ← HP.out]; exact HA5.out.set' (by omega) (by omega))⟩
              case measure => simp [intOf]
            · go_wp2_with (go_at_call 32; (with_reducible refine (add_any HR.out HR.out (L := L) (Nat.lt_trans hrb LB.out) (Nat.lt_trans hrb LB.out) (by omega)).mono ?_); rintro e w2 ⟨v2, rfl, hn2, hb2, hf2⟩; have HA2 := Lib.hid (HA.out.below hb2); have cx2 := Rx.out.of_below HA2.out.2.1 (k := i) (by rw [← Hn.out]; omega); rw [← Hx.out] at cx2)
              have HN2 : Hid (Num w2 v2 (r + r + 0)) := Lib.hid hn2
              clear hn2
              have hcmp := cmp_lt (show r + r + 0 < b by omega)
              go_wp2_with (go_at_call 25; (with_reducible refine (cmp_at HN2.out (Hb.out.below HA2.out.bel) (L := L + 1) (by have := LB2.out; omega) (by omega) hcmp).mono ?_); rintro e w4 ⟨rfl, q4, rfl⟩)
              go_roundw
              case rel => exact ⟨j, by omega, rfl, div_keep (by omega) HL.out HV.out HE.out (HN2.out.drewN _) (HA2.out.drewN _)⟩
              case measure => simp [intOf]
          · by_cases hge : b ≤ r + r + 1
            · go_wp2_with (go_at_call 32; (with_reducible refine (add_any HR.out HR.out (L := L) (Nat.lt_trans hrb LB.out) (Nat.lt_trans hrb LB.out) (by omega)).mono ?_); rintro e w2 ⟨v2, rfl, hn2, hb2, hf2⟩; have HA2 := Lib.hid (HA.out.below hb2); have cx2 := Rx.out.of_below HA2.out.2.1 (k := i) (by rw [← Hn.out]; omega); rw [← Hx.out] at cx2)
              have HN2 := Lib.hid hn2
              clear hn2
              go_wp2_with (go_at_call 32; (with_reducible refine (add_any (HN2.out.below (below_alloc _ _)) (num_one _) (L := L + 1) (by have := LB2.out; omega) (one_lt _) (by omega)).mono ?_); rintro e w3 ⟨v3, rfl, hn3, hb3, hf3⟩; have HA3 := Lib.hid ((HA2.out.below (below_alloc _ _)).below hb3))
              have HN3 := Lib.hid hn3
              clear hn3
              obtain ⟨c, hcmp, hc0⟩ := cmp_ge hge
              go_wp2_with (go_at_call 25; (with_reducible refine (cmp_at HN3.out (Hb.out.below HA3.out.bel) (L := L + 1) (by have := LB2.out; omega) (by omega) hcmp).mono ?_); rintro e w4 ⟨rfl, q4, rfl⟩)
              go_wp2_with (go_at_call 26; (with_reducible refine (sub_any (HN3.out.drewN q4) ((Hb.out.below HA3.out.bel).drewN q4) hge (L := L + 1) (by have := LB2.out; omega) (by omega)).mono ?_); rintro e w5 ⟨v5, rfl, hn5, hb5, hf5⟩; have HA5 := Lib.hid ((HA3.out.drewN q4).below hb5); have cq := HA5.out.cell (k := i) (by rw [HL.out]; omega); rw [← HD.out] at cq; have fq := HA5.out.frozen i)
              go_roundw
              case rel => exact ⟨j, by omega, rfl, div_take hge HL.out (by omega) HV.out HE.out (by omega) (hn5.set hf5 HA3.out.lt) (by rw [← HD.out, ← HP.out]; exact HA5.out.set' (by omega) (by omega))⟩
              case measure => simp [intOf]
            · go_wp2_with (go_at_call 32; (with_reducible refine (add_any HR.out HR.out (L := L) (Nat.lt_trans hrb LB.out) (Nat.lt_trans hrb LB.out) (by omega)).mono ?_); rintro e w2 ⟨v2, rfl, hn2, hb2, hf2⟩; have HA2 := Lib.hid (HA.out.below hb2); have cx2 := Rx.out.of_below HA2.out.2.1 (k := i) (by rw [← Hn.out]; omega); rw [← Hx.out] at cx2)
              have HN2 := Lib.hid hn2
              clear hn2
              go_wp2_with (go_at_call 32; (with_reducible refine (add_any (HN2.out.below (below_alloc _ _)) (num_one _) (L := L + 1) (by have := LB2.out; omega) (one_lt _) (by omega)).mono ?_); rintro e w3 ⟨v3, rfl, hn3, hb3, hf3⟩; have HA3 := Lib.hid ((HA2.out.below (below_alloc _ _)).below hb3))
              have HN3 := Lib.hid hn3
              clear hn3
              have hcmp := cmp_lt (show r + r + 1 < b by omega)
              go_wp2_with (go_at_call 25; (with_reducible refine (cmp_at HN3.out (Hb.out.below HA3.out.bel) (L := L + 1) (by have := LB2.out; omega) (by omega) hcmp).mono ?_); rintro e w4 ⟨rfl, q4, rfl⟩)
              go_roundw
              case rel => exact ⟨j, by omega, rfl, div_keep (by omega) HL.out HV.out HE.out (HN3.out.drewN _) (HA3.out.drewN _)⟩
              case measure => simp [intOf]

theorem div_any {va vb : Value} {a b L : Nat} {w : World} (ha : Num w va a) (hb : Num w vb b) (hb0 : 0 < b) (la : a < 65536 ^ L) (lb : b < 65536 ^ L) (hL : L ≤ 50000) :
    Calls Try.prog 27 #[va, vb] w (DivPost w a b) := by
  obtain ⟨b1, o1, c1, xs, rfl, h1, r1, d1⟩ := ha
  exact div_core b1 o1 c1 vb xs a b L w d1 (Nat.le_trans (d1.len_le la) hL) r1 hb hb0 lb hL

end Go.Proofs.Ytjkgeoipkcjobaa.Dgs
