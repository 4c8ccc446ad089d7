/- The reference's comparison. -/
import Derived.Test.YtjkgeoipkcjobaaMdDig2
namespace Go.Proofs.Ytjkgeoipkcjobaa.Dgs
open Go.RowKit

def CmpRel (w : World) (xs ys : List Nat) (iv : Value) (wr : World) : Prop :=
  ∃ (k q : Nat), wr = w.drewN q ∧ k ≤ xs.length ∧ xs.drop k = ys.drop k ∧ ((k = 0 ∧ iv = .int .i64 (-1)) ∨ ∃ j : Nat, k = j + 1 ∧ iv = .int .i64 (j : Int))

def CmpPost (w : World) (c : Int) (e : Ending) (w' : World) : Prop := e = .returned (.int .i64 c) ∧ ∃ q, w' = w.drewN q

theorem cmp_val {xs ys : List Nat} {a b : Nat} (hx : Dg.IsD xs a) (hy : Dg.IsD ys b) :
    (xs.length < ys.length → Dg.cmpN a b = -1) ∧ (ys.length < xs.length → Dg.cmpN a b = 1) :=
  ⟨fun h => Dg.cmpN_lt (Dg.lt_of_len hx hy h), fun h => Dg.cmpN_gt (Dg.lt_of_len hy hx h)⟩

theorem cmp_digit {xs ys : List Nat} {a b j : Nat} (hx : Dg.IsD xs a) (hy : Dg.IsD ys b) (hl : xs.length = ys.length) (hj : j < xs.length) (hd : xs.drop (j + 1) = ys.drop (j + 1)) :
    (xs.getD j 0 < ys.getD j 0 → Dg.cmpN a b = -1) ∧ (ys.getD j 0 < xs.getD j 0 → Dg.cmpN a b = 1) ∧ (xs.getD j 0 = ys.getD j 0 → xs.drop j = ys.drop j) := by
  refine ⟨fun h => ?_, fun h => ?_, fun h => ?_⟩
  · have := Dg.lt_of_digit hx.1 j hj (by omega) hd h
    rw [hx.2.1, hy.2.1] at this
    exact Dg.cmpN_lt this
  · have := Dg.lt_of_digit hy.1 j (by omega) hj hd.symm h
    rw [hx.2.1, hy.2.1] at this
    exact Dg.cmpN_gt this
  · rw [Dg.drop_eq_cons xs j hj, Dg.drop_eq_cons ys j (by omega), h, hd]

theorem drawn2 (w : World) (a b : Nat) : (w.drewN a).drewN b = w.drewN (a + b) := World.drewN_drewN ..
theorem drawn3 (w : World) (a b c : Nat) : ((w.drewN a).drewN b).drewN c = w.drewN (a + b + c) := by rw [drawn2, drawn2, Nat.add_assoc]

theorem cmp_rel {w w' : World} {xs ys : List Nat} {j q : Nat} (hw : w' = w.drewN q) (hk : j ≤ xs.length) (hd : xs.drop j = ys.drop j) {i : Int} (hi : i = (j : Int) - 1) : CmpRel w xs ys (.int .i64 i) w' := by
  subst hi
  refine ⟨j, q, hw, hk, hd, ?_⟩
  rcases Nat.eq_zero_or_pos j with h0 | h0
  · subst h0; exact .inl ⟨rfl, rfl⟩
  · exact .inr ⟨j - 1, by omega, by congr 1; omega⟩

theorem cmp_same {xs ys : List Nat} {a b : Nat} (hx : Dg.IsD xs a) (hy : Dg.IsD ys b) (hd : xs.drop 0 = ys.drop 0) : Dg.cmpN a b = 0 := by
  simp at hd
  subst hd
  exact Dg.cmpN_eq' (hx.2.1.symm.trans hy.2.1)

theorem cmp_core1 (b1 o1 c1 b2 o2 c2 : Nat) (xs ys : List Nat) (a b : Nat) (w : World) (hx : Dg.IsD xs a) (hy : Dg.IsD ys b) (h : xs.length ≠ ys.length) :
    Calls Try.prog 25 #[.slice (some ⟨b1, o1, none⟩) xs.length c1, .slice (some ⟨b2, o2, none⟩) ys.length c2] w (CmpPost w (Dg.cmpN a b)) := by
  obtain ⟨e1, e2⟩ := cmp_val hx hy
  generalize xs.length = n at *
  generalize ys.length = m at *
  have hb : ((n : Int) != (m : Int)) = true := by rw [bne_iff_ne]; omega
  have E1 := Lib.hid e1
  have E2 := Lib.hid e2
  clear e1 e2
  rcases Nat.lt_or_ge n m with hl | hl
  · go_enter Try.func25, Try.ntmps25
    go_wp2_with fail
    go_ret
    exact ⟨ret_int (E1.out hl).symm, 0, rfl⟩
  · have hl' : m < n := by omega
    go_enter Try.func25, Try.ntmps25
    go_wp2_with fail
    go_ret
    exact ⟨ret_int (E2.out hl').symm, 0, rfl⟩

set_option maxHeartbeats 2000000 in
theorem cmp_core2 (b1 o1 c1 b2 o2 c2 : Nat) (xs ys : List Nat) (a b : Nat) (w : World) (hx : Dg.IsD xs a) (hy : Dg.IsD ys b) (lx : xs.length ≤ 100000) (rx : Rd w b1 o1 xs) (ry : Rd w b2 o2 ys) (h : xs.length = ys.length) :
    Calls Try.prog 25 #[.slice (some ⟨b1, o1, none⟩) xs.length c1, .slice (some ⟨b2, o2, none⟩) ys.length c2] w (CmpPost w (Dg.cmpN a b)) := by
  obtain ⟨n, hn⟩ : ∃ n, n = xs.length := ⟨_, rfl⟩
  rw [← h, ← hn]
  rw [← hn] at lx
  have Hn := Lib.hid hn
  have HL := Lib.hid h
  have Rx := Lib.hid rx
  have Ry := Lib.hid ry
  clear hn rx ry h
  go_enter Try.func25, Try.ntmps25
  go_wp2_with fail
  go_loopw [5] (fun iv wr => CmpRel w xs ys iv wr) (fun iv _ => (intOf iv + 1).toNat)
  case atStart =>
    refine ⟨n, 0, rfl, by rw [Hn.out]; exact Nat.le_refl _, by rw [List.drop_of_length_le (by rw [Hn.out]; exact Nat.le_refl _), List.drop_of_length_le (by rw [Hn.out, HL.out]; exact Nat.le_refl _)], ?_⟩
    rcases Nat.eq_zero_or_pos n with h0 | h0
    · subst h0; exact .inl ⟨rfl, rfl⟩
    · exact .inr ⟨n - 1, by omega, by congr 1; omega⟩
  case round =>
    obtain ⟨k, q, rfl, hk, hd, ⟨rfl, rfl⟩ | ⟨j, rfl, rfl⟩⟩ := hrel
    · have Hd := Lib.hid hd
      clear hd
      go_wp2_with fail
      go_ret
      exact ⟨ret_int (cmp_same hx hy Hd.out).symm, q, rfl⟩
    · obtain ⟨d1, d2, d3⟩ := cmp_digit hx hy HL.out hk hd
      have cx := (Rx.out (by omega)).2 j hk
      have cy := (Ry.out (by rw [← HL.out]; omega)).2 j (by rw [← HL.out]; exact hk)
      have hjn : j < n := by rw [Hn.out]; exact hk
      generalize xs.getD j 0 = x at *
      generalize ys.getD j 0 = y at *
      have D1 := Lib.hid d1
      have D2 := Lib.hid d2
      have D3 := Lib.hid d3
      have Hd := Lib.hid hd
      have Hk := Lib.hid hk
      clear d1 d2 d3 hd hk
      rcases Nat.lt_trichotomy x y with h | h | h
      · go_wp2_with fail
        go_quiet (fail)
        go_wp2_with fail
        go_ret
        exact ⟨ret_int (D1.out h).symm, _, drawn2 ..⟩
      · subst h
        have hlt : decide ((x : Int) < (x : Int)) = false := by simp
        go_wp2_with fail
        go_quiet (fail)
        go_wp2_with fail
        go_quiet (fail)
        go_wp2_with fail
        go_roundw
        case rel => exact cmp_rel (by first | rfl | exact drawn3 _ _ _ _ | exact drawn2 _ _ _) (Nat.le_of_lt Hk.out) (by first | exact D3.out rfl | exact D3.out trivial) rfl
        case measure => simp [intOf]
      · have hlt : decide ((x : Int) < (y : Int)) = false := by simp; omega
        go_wp2_with fail
        go_quiet (fail)
        go_wp2_with fail
        go_quiet (fail)
        go_wp2_with fail
        go_ret
        exact ⟨ret_int (D2.out h).symm, _, drawn3 ..⟩

theorem cmp_any {va vb : Value} {a b L : Nat} {w : World} (ha : Num w va a) (hb : Num w vb b) (la : a < 65536 ^ L) (hL : L ≤ 100000) :
    Calls Try.prog 25 #[va, vb] w (CmpPost w (Dg.cmpN a b)) := by
  obtain ⟨b1, o1, c1, xs, rfl, h1, r1, d1⟩ := ha
  obtain ⟨b2, o2, c2, ys, rfl, h2, r2, d2⟩ := hb
  by_cases h : xs.length = ys.length
  · exact cmp_core2 b1 o1 c1 b2 o2 c2 xs ys a b w d1 d2 (Nat.le_trans (d1.len_le la) hL) r1 r2 h
  · exact cmp_core1 b1 o1 c1 b2 o2 c2 xs ys a b w d1 d2 h

end Go.Proofs.Ytjkgeoipkcjobaa.Dgs
