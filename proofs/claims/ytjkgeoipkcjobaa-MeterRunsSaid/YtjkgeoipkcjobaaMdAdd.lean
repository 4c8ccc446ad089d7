/- The reference's sum. -/
import Derived.Test.YtjkgeoipkcjobaaMdDig2
namespace Go.Proofs.Ytjkgeoipkcjobaa.Dgs
open Go.RowKit

def AddRel (w : World) (xs ys : List Nat) (v cv iv : Value) (wr : World) : Prop :=
  ∃ (C k : Nat) (os : List Nat), cv = .int .i64 (C : Int) ∧ iv = .int .i64 (k : Int) ∧ OwnD w wr v os ∧ os.length = k ∧ C ≤ 1 ∧ (xs.length ≤ k → ys.length ≤ k → C = 1 → xs.length = k ∨ ys.length = k) ∧ (k ≤ xs.length ∨ k ≤ ys.length ∨ C = 0) ∧
    k ≤ max xs.length ys.length + 1 ∧ Dg.val os + 65536 ^ k * C = Dg.val (xs.take k) + Dg.val (ys.take k)

theorem add_val {os xs ys : List Nat} {C k S : Nat} (hk : os.length = k) (hS : S = C + xs.getD k 0 + ys.getD k 0) (hv : Dg.val os + 65536 ^ k * C = Dg.val (xs.take k) + Dg.val (ys.take k)) :
    Dg.val (os ++ [S % 65536]) + 65536 ^ (k + 1) * (S / 65536) = Dg.val (xs.take (k + 1)) + Dg.val (ys.take (k + 1)) := by
  rw [Dg.val_snoc, hk, Dg.val_take_succ, Dg.val_take_succ, Dg.pow_succ', Nat.mul_comm 65536, Nat.mul_assoc, Nat.add_assoc, ← Nat.mul_add, Nat.mod_add_div, hS, Nat.mul_add, Nat.mul_add]
  omega

theorem getD_ge {xs : List Nat} {k : Nat} (h : xs.length ≤ k) : xs.getD k 0 = 0 := by
  rw [List.getD_eq_getElem?_getD, List.getElem?_eq_none h]; rfl

theorem add_step {w w1 : World} {xs ys os : List Nat} {C k S : Nat} {v' : Value} {ci ii : Int} (hx : Dg.Small xs) (hy : Dg.Small ys) (hk : os.length = k) (hC : C ≤ 1) (hS : S = C + xs.getD k 0 + ys.getD k 0)
    (hgo : k < xs.length ∨ k < ys.length ∨ (C = 1 ∧ (xs.length = k ∨ ys.length = k)))
    (hv : Dg.val os + 65536 ^ k * C = Dg.val (xs.take k) + Dg.val (ys.take k)) (hc : ci = ((S / 65536 : Nat) : Int)) (hi : ii = ((k + 1 : Nat) : Int)) (h1 : OwnD w w1 v' (os ++ [S % 65536])) :
    AddRel w xs ys v' (.int .i64 ci) (.int .i64 ii) w1 := by
  have b1 := hx.getD k
  have b2 := hy.getD k
  refine ⟨S / 65536, k + 1, os ++ [S % 65536], by rw [hc], by rw [hi], h1, by simp [hk], by omega, fun l1 l2 l3 => ?_, ?_, by omega, add_val hk hS hv⟩
  · rcases Nat.lt_or_ge k xs.length with g | g
    · exact .inl (by omega)
    · rcases Nat.lt_or_ge k ys.length with g' | g'
      · exact .inr (by omega)
      · have e1 := getD_ge g
        have e2 := getD_ge g'
        omega
  · rcases Nat.lt_or_ge k xs.length with g | g
    · exact .inl (by omega)
    · rcases Nat.lt_or_ge k ys.length with g' | g'
      · exact .inr (.inl (by omega))
      · have e1 := getD_ge g
        have e2 := getD_ge g'
        exact .inr (.inr (by omega))

set_option maxHeartbeats 4000000 in
theorem add_core (b1 o1 c1 b2 o2 c2 : Nat) (xs ys : List Nat) (w : World) (hx : Dg.Small xs) (hy : Dg.Small ys) (lx : xs.length ≤ 100000) (ly : ys.length ≤ 100000) (rx : Rd w b1 o1 xs) (ry : Rd w b2 o2 ys) :
    Calls Try.prog 32 #[.slice (some ⟨b1, o1, none⟩) xs.length c1, .slice (some ⟨b2, o2, none⟩) ys.length c2] w (NumPost w (Dg.val xs + Dg.val ys)) := by
  obtain ⟨i0, hi, hz0, hz1, hz2⟩ := info_parts Try.infoInt
  obtain ⟨n, hn⟩ : ∃ n, n = xs.length := ⟨_, rfl⟩
  obtain ⟨m, hm⟩ : ∃ m, m = ys.length := ⟨_, rfl⟩
  rw [← hn] at lx ⊢
  rw [← hm] at ly ⊢
  have Hn := Lib.hid hn
  have Hm := Lib.hid hm
  have Rx := Lib.hid rx
  have Ry := Lib.hid ry
  clear hn hm rx ry
  go_enter Try.func32, Try.ntmps32
  go_wp2_with fail
  go_loopw [5, 6, 7] (fun v cv iv wr => AddRel w xs ys v cv iv wr) (fun _ cv iv _ => 2 * (n + m + 1 - (intOf iv).toNat) + (intOf cv).toNat)
  case atStart => exact ⟨0, 0, [], rfl, rfl, OwnD.start w, rfl, by omega, fun _ _ h => by omega, by omega, by omega, by simp [Dg.val]⟩
  case round =>
    obtain ⟨C, k, os, rfl, rfl, hown, hk, hC, hg1, hg2, hg3, hv⟩ := hrel
    rw [← Hn.out, ← Hm.out] at hg1 hg2 hg3
    have hk' : os.length ≤ 200000 := by omega
    have hk3 : k ≤ 200000 := by omega
    have hkm : k ≤ max n m + 1 := hg3
    have Hv := Lib.hid hv
    have Ho := Lib.hid hown
    have Hk := Lib.hid hk
    have hown' := hown.1
    have hsz := hown.2.1.size
    have G1 := Lib.hid hg1
    have G2 := Lib.hid hg2
    clear hv hown hk hg1 hg2 hg3
    by_cases gx : k < n
    · have cx := Rx.out.of_below Ho.out.2.1 (k := k) (by rw [← Hn.out]; exact gx)
      have sx := hx.getD k
      obtain ⟨x, hx⟩ : ∃ x, x = xs.getD k 0 := ⟨_, rfl⟩
      rw [← hx] at cx sx
      have Hx := Lib.hid hx
      clear hx
      by_cases gy : k < m
      · have cy := Ry.out.of_below Ho.out.2.1 (k := k) (by rw [← Hm.out]; exact gy)
        have sy := hy.getD k
        obtain ⟨y, hy⟩ : ∃ y, y = ys.getD k 0 := ⟨_, rfl⟩
        rw [← hy] at cy sy
        have Hy := Lib.hid hy
        clear hy
        have HS : Hid (C + x + y = C + xs.getD k 0 + ys.getD k 0) := Lib.hid (by rw [Hx.out, Hy.out])
        have HG : Hid (k < xs.length ∨ k < ys.length ∨ (C = 1 ∧ (xs.length = k ∨ ys.length = k))) := Lib.hid (.inl (by rw [← Hn.out]; exact gx))
        go_wp2_with (at_builtin; refine wpList_append_own _ rfl _ _ 37 rfl w.heap.size 3 i0 (.int .i64 0) 1 8 Try.underlying37 hi hz0 hz1 hz2 rfl (by decide) _ _ _ rfl (hown'.alloc _) ⟨wr.heap.size, 0, none⟩ 1 1 [.int .i64 (((C + x + y) % 65536 : Nat) : Int)] rfl rfl (cell_one_new _ _ _) (fun x hx => by simp at hx; subst hx; rfl) (by unfold maxLen; omega) (by omega) (by simp; omega) ?_; intro v' w1 hown1 hgrow1 hnil1)
        go_roundw
        case rel => exact add_step (S := C + x + y) hx hy Hk.out hC HS.out HG.out Hv.out (by omega) (by omega) (Ho.out.snoc (Nat.mod_lt _ (by omega)) hown1 hgrow1 hnil1)
        case measure => simp [intOf]; omega
      · have gy' : m ≤ k := by omega
        have HS : Hid (C + x = C + xs.getD k 0 + ys.getD k 0) := Lib.hid (by rw [Hx.out, getD_ge (xs := ys) (by rw [← Hm.out]; exact gy')]; rfl)
        have HG : Hid (k < xs.length ∨ k < ys.length ∨ (C = 1 ∧ (xs.length = k ∨ ys.length = k))) := Lib.hid (.inl (by rw [← Hn.out]; exact gx))
        go_wp2_with (at_builtin; refine wpList_append_own _ rfl _ _ 37 rfl w.heap.size 3 i0 (.int .i64 0) 1 8 Try.underlying37 hi hz0 hz1 hz2 rfl (by decide) _ _ _ rfl (hown'.alloc _) ⟨wr.heap.size, 0, none⟩ 1 1 [.int .i64 (((C + x) % 65536 : Nat) : Int)] rfl rfl (cell_one_new _ _ _) (fun x hx => by simp at hx; subst hx; rfl) (by unfold maxLen; omega) (by omega) (by simp; omega) ?_; intro v' w1 hown1 hgrow1 hnil1)
        go_roundw
        case rel => exact add_step (S := C + x) hx hy Hk.out hC HS.out HG.out Hv.out (by omega) (by omega) (Ho.out.snoc (Nat.mod_lt _ (by omega)) hown1 hgrow1 hnil1)
        case measure => simp [intOf]; omega
    · have gx' : n ≤ k := by omega
      by_cases gy : k < m
      · have cy := Ry.out.of_below Ho.out.2.1 (k := k) (by rw [← Hm.out]; exact gy)
        have sy := hy.getD k
        obtain ⟨y, hy⟩ : ∃ y, y = ys.getD k 0 := ⟨_, rfl⟩
        rw [← hy] at cy sy
        have Hy := Lib.hid hy
        clear hy
        have HS : Hid (C + y = C + xs.getD k 0 + ys.getD k 0) := Lib.hid (by rw [Hy.out, getD_ge (xs := xs) (by rw [← Hn.out]; exact gx')]; rfl)
        have HG : Hid (k < xs.length ∨ k < ys.length ∨ (C = 1 ∧ (xs.length = k ∨ ys.length = k))) := Lib.hid (.inr (.inl (by rw [← Hm.out]; exact gy)))
        go_wp2_with (at_builtin; refine wpList_append_own _ rfl _ _ 37 rfl w.heap.size 3 i0 (.int .i64 0) 1 8 Try.underlying37 hi hz0 hz1 hz2 rfl (by decide) _ _ _ rfl (hown'.alloc _) ⟨wr.heap.size, 0, none⟩ 1 1 [.int .i64 (((C + y) % 65536 : Nat) : Int)] rfl rfl (cell_one_new _ _ _) (fun x hx => by simp at hx; subst hx; rfl) (by unfold maxLen; omega) (by omega) (by simp; omega) ?_; intro v' w1 hown1 hgrow1 hnil1)
        go_roundw
        case rel => exact add_step (S := C + y) hx hy Hk.out hC HS.out HG.out Hv.out (by omega) (by omega) (Ho.out.snoc (Nat.mod_lt _ (by omega)) hown1 hgrow1 hnil1)
        case measure => simp [intOf]; omega
      · have gy' : m ≤ k := by omega
        have E1 := Lib.hid (getD_ge (xs := xs) (by rw [← Hn.out]; exact gx'))
        have E2 := Lib.hid (getD_ge (xs := ys) (by rw [← Hm.out]; exact gy'))
        rcases Nat.eq_zero_or_pos C with h0 | h0
        · subst h0
          go_wp2_with (go_at_call 34; refine (trim_own Ho.out (by omega)).mono ?_; rintro e w4 ⟨v4, rfl, hn4, hb4, hf4⟩)
          go_ret
          exact NumPost.from ⟨_, rfl, hn4, hb4, hf4⟩ Ho.out.2.1 (by have := Hv.out; rw [List.take_of_length_le (by rw [← Hn.out]; exact gx'), List.take_of_length_le (by rw [← Hm.out]; exact gy')] at this; omega)
        · obtain rfl : C = 1 := by omega
          have HS : Hid (1 = 1 + xs.getD k 0 + ys.getD k 0) := Lib.hid (by rw [E1.out, E2.out])
          have HG : Hid (k < xs.length ∨ k < ys.length ∨ (1 = 1 ∧ (xs.length = k ∨ ys.length = k))) := Lib.hid (.inr (.inr ⟨rfl, by rw [← Hn.out, ← Hm.out]; first | exact G1.out gx' gy' rfl | exact G1.out gx' gy' trivial⟩))
          go_wp2_with (at_builtin; refine wpList_append_own _ rfl _ _ 37 rfl w.heap.size 3 i0 (.int .i64 0) 1 8 Try.underlying37 hi hz0 hz1 hz2 rfl (by decide) _ _ _ rfl (hown'.alloc _) ⟨wr.heap.size, 0, none⟩ 1 1 [.int .i64 (((1) % 65536 : Nat) : Int)] rfl rfl (cell_one_new _ _ _) (fun x hx => by simp at hx; subst hx; rfl) (by unfold maxLen; omega) (by omega) (by simp; omega) ?_; intro v' w1 hown1 hgrow1 hnil1)
          go_roundw
          case rel => exact add_step (S := 1) hx hy Hk.out hC HS.out HG.out Hv.out (by omega) (by omega) (Ho.out.snoc (Nat.mod_lt _ (by omega)) hown1 hgrow1 hnil1)
          case measure => simp [intOf]; omega

theorem add_any {va vb : Value} {a b L : Nat} {w : World} (ha : Num w va a) (hb : Num w vb b) (la : a < 65536 ^ L) (lb : b < 65536 ^ L) (hL : L ≤ 100000) :
    Calls Try.prog 32 #[va, vb] w (NumPost w (a + b)) := by
  obtain ⟨b1, o1, c1, xs, rfl, h1, r1, d1⟩ := ha
  obtain ⟨b2, o2, c2, ys, rfl, h2, r2, d2⟩ := hb
  have := add_core b1 o1 c1 b2 o2 c2 xs ys w d1.1 d2.1 (Nat.le_trans (d1.len_le la) hL) (Nat.le_trans (d2.len_le lb) hL) r1 r2
  rw [d1.2.1, d2.2.1] at this
  exact this

end Go.Proofs.Ytjkgeoipkcjobaa.Dgs
