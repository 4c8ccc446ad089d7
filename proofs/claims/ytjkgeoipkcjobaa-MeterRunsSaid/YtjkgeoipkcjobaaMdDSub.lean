/- The reference's difference. -/
import Derived.Test.YtjkgeoipkcjobaaMdAdd
namespace Go.Proofs.Ytjkgeoipkcjobaa.Dgs
open Go.RowKit

def SubRel (w : World) (xs ys : List Nat) (v cv iv : Value) (wr : World) : Prop :=
  ∃ (C k : Nat) (os : List Nat), cv = .int .i64 (C : Int) ∧ iv = .int .i64 (k : Int) ∧ OwnD w wr v os ∧ os.length = k ∧ C ≤ 1 ∧ k ≤ xs.length ∧
    Dg.val os + Dg.val (ys.take k) = Dg.val (xs.take k) + 65536 ^ k * C

theorem sub_val {os xs ys : List Nat} {C C' k d : Nat} (hk : os.length = k) (hd : d + ys.getD k 0 + C = xs.getD k 0 + 65536 * C') (hv : Dg.val os + Dg.val (ys.take k) = Dg.val (xs.take k) + 65536 ^ k * C) :
    Dg.val (os ++ [d]) + Dg.val (ys.take (k + 1)) = Dg.val (xs.take (k + 1)) + 65536 ^ (k + 1) * C' := by
  rw [Dg.val_snoc, hk, Dg.val_take_succ, Dg.val_take_succ, Dg.pow_succ', Nat.mul_comm 65536, Nat.mul_assoc]
  have h := congrArg (fun t => 65536 ^ k * t) hd
  simp only [Nat.mul_add] at h
  omega

theorem sub_step {w w1 : World} {xs ys os : List Nat} {C C' k d : Nat} {v' : Value} {ci ii : Int} (hk : os.length = k) (hC : C' ≤ 1) (hd : d + ys.getD k 0 + C = xs.getD k 0 + 65536 * C') (hlt : k < xs.length)
    (hv : Dg.val os + Dg.val (ys.take k) = Dg.val (xs.take k) + 65536 ^ k * C) (hc : ci = ((C' : Nat) : Int)) (hi : ii = ((k + 1 : Nat) : Int)) (h1 : OwnD w w1 v' (os ++ [d])) :
    SubRel w xs ys v' (.int .i64 ci) (.int .i64 ii) w1 :=
  ⟨C', k + 1, os ++ [d], by rw [hc], by rw [hi], h1, by simp [hk], hC, hlt, sub_val hk hd hv⟩

theorem sub_end {os xs ys : List Nat} {a b C k : Nat} (hx : Dg.IsD xs a) (hy : Dg.IsD ys b) (hba : b ≤ a) (hs : Dg.Small os) (hk : os.length = k) (hkn : k = xs.length) (hC : C ≤ 1)
    (hv : Dg.val os + Dg.val (ys.take k) = Dg.val (xs.take k) + 65536 ^ k * C) : Dg.val os = a - b := by
  subst hkn
  have hl : ys.length ≤ xs.length := by
    rcases Nat.lt_or_ge xs.length ys.length with h | h
    · have := Dg.lt_of_len hx hy h; omega
    · exact h
  have h1 := Dg.val_lt hs
  rw [hk] at h1
  rw [List.take_of_length_le hl, List.take_length, hx.2.1, hy.2.1] at hv
  have hc : C = 0 ∨ C = 1 := by omega
  rcases hc with rfl | rfl
  · omega
  · rw [Nat.mul_one] at hv; omega

set_option maxHeartbeats 4000000 in
theorem sub_core (b1 o1 c1 b2 o2 c2 : Nat) (xs ys : List Nat) (a b : Nat) (w : World) (hx : Dg.IsD xs a) (hy : Dg.IsD ys b) (hba : b ≤ a) (lx : xs.length ≤ 100000) (rx : Rd w b1 o1 xs) (ry : Rd w b2 o2 ys) :
    Calls Try.prog 26 #[.slice (some ⟨b1, o1, none⟩) xs.length c1, .slice (some ⟨b2, o2, none⟩) ys.length c2] w (NumPost w (a - b)) := by
  obtain ⟨i0, hi, hz0, hz1, hz2⟩ := info_parts Try.infoInt
  obtain ⟨n, hn⟩ : ∃ n, n = xs.length := ⟨_, rfl⟩
  obtain ⟨m, hm⟩ : ∃ m, m = ys.length := ⟨_, rfl⟩
  rw [← hn] at lx ⊢
  rw [← hm]
  have Hn := Lib.hid hn
  have Hm := Lib.hid hm
  have Rx := Lib.hid rx
  have Ry := Lib.hid ry
  clear hn hm rx ry
  go_enter Try.func26, Try.ntmps26
  go_wp2_with fail
  go_loopw [5, 6, 12] (fun v cv iv wr => SubRel w xs ys v cv iv wr) (fun _ _ iv _ => n - (intOf iv).toNat)
  case atStart => exact ⟨0, 0, [], rfl, rfl, OwnD.start w, rfl, by omega, by omega, by simp [Dg.val]⟩
  case round =>
    obtain ⟨C, k, os, rfl, rfl, hown, hk, hC, hkn, hv⟩ := hrel
    rw [← Hn.out] at hkn
    have hk' : os.length ≤ 200000 := by omega
    have Hv := Lib.hid hv
    have Ho := Lib.hid hown
    have Hk := Lib.hid hk
    have hown' := hown.1
    have hsz := hown.2.1.size
    clear hv hown hk
    rcases Nat.lt_or_ge k n with gx | gx
    · have cx := Rx.out.of_below Ho.out.2.1 (k := k) (by rw [← Hn.out]; exact gx)
      have sx := hx.1.getD k
      obtain ⟨x, hxe⟩ : ∃ x, x = xs.getD k 0 := ⟨_, rfl⟩
      rw [← hxe] at cx sx
      have Hx := Lib.hid hxe
      clear hxe
      by_cases gy : k < m
      · have cy := Ry.out.of_below Ho.out.2.1 (k := k) (by rw [← Hm.out]; exact gy)
        have sy := hy.1.getD k
        obtain ⟨y, hye⟩ : ∃ y, y = ys.getD k 0 := ⟨_, rfl⟩
        rw [← hye] at cy sy
        have Hy := Lib.hid hye
        clear hye
        by_cases hneg : (x : Int) - (C : Int) - (y : Int) < 0
        · have HD : Hid (x + 65536 - C - y + ys.getD k 0 + C = xs.getD k 0 + 65536 * 1) := Lib.hid (by rw [← Hx.out, ← Hy.out]; omega)
          have he : (x : Int) - (C : Int) - (y : Int) + 65536 = ((x + 65536 - C - y : Nat) : Int) := by omega
          have HE := Lib.hid he
          clear he
          go_wp2_with (at_builtin; refine wpList_append_own _ rfl _ _ 37 rfl w.heap.size 3 i0 (.int .i64 0) 1 8 Try.underlying37 hi hz0 hz1 hz2 rfl (by decide) _ _ _ rfl (hown'.alloc _) ⟨wr.heap.size, 0, none⟩ 1 1 [.int .i64 ((x : Int) - (C : Int) - (y : Int) + 65536)] rfl rfl (cell_one_new _ _ _) (fun x hx => by simp at hx; subst hx; rfl) (by unfold maxLen; omega) (by omega) (by simp; omega) ?_; intro v' w1 hown1 hgrow1 hnil1)
          rw [HE.out] at hown1
          go_roundw
          case rel => exact sub_step (C' := 1) Hk.out (by omega) HD.out (by rw [← Hn.out]; exact gx) Hv.out rfl (by omega) (Ho.out.snoc (by omega) hown1 hgrow1 hnil1)
          case measure => simp [intOf]; omega
        · have HD : Hid (x - C - y + ys.getD k 0 + C = xs.getD k 0 + 65536 * 0) := Lib.hid (by rw [← Hx.out, ← Hy.out]; omega)
          have he : (x : Int) - (C : Int) - (y : Int) = ((x - C - y : Nat) : Int) := by omega
          have HE := Lib.hid he
          clear he
          go_wp2_with (at_builtin; refine wpList_append_own _ rfl _ _ 37 rfl w.heap.size 3 i0 (.int .i64 0) 1 8 Try.underlying37 hi hz0 hz1 hz2 rfl (by decide) _ _ _ rfl (hown'.alloc _) ⟨wr.heap.size, 0, none⟩ 1 1 [.int .i64 ((x : Int) - (C : Int) - (y : Int))] rfl rfl (cell_one_new _ _ _) (fun x hx => by simp at hx; subst hx; rfl) (by unfold maxLen; omega) (by omega) (by simp; omega) ?_; intro v' w1 hown1 hgrow1 hnil1)
          rw [HE.out] at hown1
          go_roundw
          case rel => exact sub_step (C' := 0) Hk.out (by omega) HD.out (by rw [← Hn.out]; exact gx) Hv.out rfl (by omega) (Ho.out.snoc (by omega) hown1 hgrow1 hnil1)
          case measure => simp [intOf]; omega
      · have gy' : m ≤ k := by omega
        have E2 := Lib.hid (getD_ge (xs := ys) (by rw [← Hm.out]; exact gy'))
        by_cases hneg : (x : Int) - (C : Int) < 0
        · have HD : Hid (x + 65536 - C + ys.getD k 0 + C = xs.getD k 0 + 65536 * 1) := Lib.hid (by rw [← Hx.out, E2.out]; omega)
          have he : (x : Int) - (C : Int) + 65536 = ((x + 65536 - C : Nat) : Int) := by omega
          have HE := Lib.hid he
          clear he
          go_wp2_with (at_builtin; refine wpList_append_own _ rfl _ _ 37 rfl w.heap.size 3 i0 (.int .i64 0) 1 8 Try.underlying37 hi hz0 hz1 hz2 rfl (by decide) _ _ _ rfl (hown'.alloc _) ⟨wr.heap.size, 0, none⟩ 1 1 [.int .i64 ((x : Int) - (C : Int) + 65536)] rfl rfl (cell_one_new _ _ _) (fun x hx => by simp at hx; subst hx; rfl) (by unfold maxLen; omega) (by omega) (by simp; omega) ?_; intro v' w1 hown1 hgrow1 hnil1)
          rw [HE.out] at hown1
          go_roundw
          case rel => exact sub_step (C' := 1) Hk.out (by omega) HD.out (by rw [← Hn.out]; exact gx) Hv.out rfl (by omega) (Ho.out.snoc (by omega) hown1 hgrow1 hnil1)
          case measure => simp [intOf]; omega
        · have HD : Hid (x - C + ys.getD k 0 + C = xs.getD k 0 + 65536 * 0) := Lib.hid (by rw [← Hx.out, E2.out]; omega)
          have he : (x : Int) - (C : Int) = ((x - C : Nat) : Int) := by omega
          have HE := Lib.hid he
          clear he
          go_wp2_with (at_builtin; refine wpList_append_own _ rfl _ _ 37 rfl w.heap.size 3 i0 (.int .i64 0) 1 8 Try.underlying37 hi hz0 hz1 hz2 rfl (by decide) _ _ _ rfl (hown'.alloc _) ⟨wr.heap.size, 0, none⟩ 1 1 [.int .i64 ((x : Int) - (C : Int))] rfl rfl (cell_one_new _ _ _) (fun x hx => by simp at hx; subst hx; rfl) (by unfold maxLen; omega) (by omega) (by simp; omega) ?_; intro v' w1 hown1 hgrow1 hnil1)
          rw [HE.out] at hown1
          go_roundw
          case rel => exact sub_step (C' := 0) Hk.out (by omega) HD.out (by rw [← Hn.out]; exact gx) Hv.out rfl (by omega) (Ho.out.snoc (by omega) hown1 hgrow1 hnil1)
          case measure => simp [intOf]; omega
    · obtain rfl : k = n := by omega
      go_wp2_with (go_at_call 34; refine (trim_own Ho.out (by omega)).mono ?_; rintro e w4 ⟨v4, rfl, hn4, hb4, hf4⟩)
      go_ret
      exact NumPost.from ⟨_, rfl, hn4, hb4, hf4⟩ Ho.out.2.1 (sub_end hx hy hba Ho.out.2.2.1 Hk.out Hn.out hC Hv.out)

theorem sub_any {va vb : Value} {a b L : Nat} {w : World} (ha : Num w va a) (hb : Num w vb b) (hba : b ≤ a) (la : a < 65536 ^ L) (hL : L ≤ 100000) :
    Calls Try.prog 26 #[va, vb] w (NumPost w (a - b)) := by
  obtain ⟨b1, o1, c1, xs, rfl, h1, r1, d1⟩ := ha
  obtain ⟨b2, o2, c2, ys, rfl, h2, r2, d2⟩ := hb
  exact sub_core b1 o1 c1 b2 o2 c2 xs ys a b w d1 d2 hba (Nat.le_trans (d1.len_le la) hL) r1 r2

end Go.Proofs.Ytjkgeoipkcjobaa.Dgs
