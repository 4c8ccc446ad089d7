/- The reference's rate of a float's bits. -/
import Derived.Test.YtfohfpeeghnocabPow
import Derived.Test.YtfohfpeeghnocabROf
namespace Go.Proofs.Ytfohfpeeghnocab
open Go.RowKit

theorem rof_none (b : Nat) (x y : Bool) (r : Int) (hy : r = if y = true then 13 else 12)
    (HP : Ret 18 #[.int .u64 (b : Int)] (.tuple #[.bool x, .slice none 0 0, .int .i64 0, .bool false, .bool y])) (w : World) :
    Calls Try.prog 12 #[.int .u64 (b : Int)] w fun e w' => e = .returned (.tuple #[.int .i64 0, .int .i64 r]) ∧ Below w.heap.size w w' := by
  subst hy
  cases y
  all_goals
    go_enter Try.func12, Try.ntmps12
    go_wp2_with (go_at_call 18; (with_reducible refine (HP.go _).mono ?_); rintro e wx ⟨rfl, hb⟩)
    go_ret2
    exact ⟨rfl, hb⟩

set_option maxHeartbeats 2000000 in
theorem rof_out (b N : Nat) (k : Int) (x : Bool) (HP : ∀ w, Calls Try.prog 18 #[.int .u64 (b : Int)] w (PartsPost w x N k)) (D : Nat) (HW : ∀ w, Calls Try.prog 37 #[.int .i64 k] w (NumPost w D)) (hk : decide (0 < k) = true) (ln : N < 65536 ^ 200) (ld : D < 65536 ^ 200) (l5 : 5000 < 65536 ^ 200) (c : Int) (hc : Dg.cmpN N (D * 5000) = c) (hx : decide (0 < c) = true) (w : World) :
    Calls Try.prog 12 #[.int .u64 (b : Int)] w fun e w' => e = .returned (.tuple #[.int .i64 0, .int .i64 50]) ∧ Below w.heap.size w w' := by
  have H5 : ∀ w, Calls Try.prog 21 #[.int .u64 5000] w (NumPost w 5000) := fun w => of_any 5000 (by omega) w
  have H1 : ∀ w, Calls Try.prog 21 #[.int .u64 2199023255552] w (NumPost w 2199023255552) := fun w => of_any 2199023255552 (by omega) w
  have H6 : ∀ w, Calls Try.prog 21 #[.int .u64 1000000] w (NumPost w 1000000) := fun w => of_any 1000000 (by omega) w
  go_enter Try.func12, Try.ntmps12
  go_wp2_with (first
    | (go_at_call 18; (with_reducible refine (HP _).mono ?_); rintro e wx ⟨v1, rfl, hn, hb, hf⟩; have HN := Lib.hid hn; have HB := Lib.hid hb; clear hn hb hf)
    | (go_at_call 37; (with_reducible refine (HW _).mono ?_); rintro e wx ⟨v2, rfl, hn, hb, hf⟩; have HD := Lib.hid hn; (first | replace HN := Lib.hid (HN.out.below hb) | replace HN := Lib.hid (HN.out.below (bTr' (bAl (bRef' _) _) hb))); (first | replace HB := Lib.hid (bTr' HB.out hb) | replace HB := Lib.hid (bTr' (bDr' HB.out _) hb) | replace HB := Lib.hid (bTr' (bAl HB.out _) hb)); clear hn hb hf)
    | (go_at_call 21; (with_reducible refine (H5 _).mono ?_); rintro e wx ⟨v3, rfl, hn, hb, hf⟩; have HT := Lib.hid hn; (first | replace HN := Lib.hid (HN.out.below hb) | replace HN := Lib.hid (HN.out.below (bTr' (bAl (bRef' _) _) hb))); (first | replace HD := Lib.hid (HD.out.below hb) | replace HD := Lib.hid (HD.out.below (bTr' (bAl (bRef' _) _) hb))); (first | replace HB := Lib.hid (bTr' HB.out hb) | replace HB := Lib.hid (bTr' (bDr' HB.out _) hb) | replace HB := Lib.hid (bTr' (bAl HB.out _) hb)); clear hn hb hf)
    | (go_at_call 19; (with_reducible refine (mul_any HD.out HT.out (L := 200) ld l5 (by omega)).mono ?_); rintro e wx ⟨v4, rfl, hn, hb, hf⟩; have HM := Lib.hid hn; (first | replace HN := Lib.hid (HN.out.below hb) | replace HN := Lib.hid (HN.out.below (bTr' (bAl (bRef' _) _) hb))); (first | replace HD := Lib.hid (HD.out.below hb) | replace HD := Lib.hid (HD.out.below (bTr' (bAl (bRef' _) _) hb))); (first | replace HB := Lib.hid (bTr' HB.out hb) | replace HB := Lib.hid (bTr' (bDr' HB.out _) hb) | replace HB := Lib.hid (bTr' (bAl HB.out _) hb)); clear hn hb hf)
    | (go_at_call 23; (with_reducible refine (cmp_at HN.out HM.out (L := 200) ln (by omega) hc).mono ?_); rintro e wx ⟨rfl, q, rfl⟩; replace HN := Lib.hid (HN.out.drewN q); replace HD := Lib.hid (HD.out.drewN q); replace HB := Lib.hid (bDr' HB.out q)))
  go_ret2
  exact ⟨rfl, HB.out⟩

set_option maxHeartbeats 2000000 in
theorem rof_pos (b N : Nat) (k : Int) (x : Bool) (HP : ∀ w, Calls Try.prog 18 #[.int .u64 (b : Int)] w (PartsPost w x N k)) (D : Nat) (HW : ∀ w, Calls Try.prog 37 #[.int .i64 k] w (NumPost w D)) (hk : decide (0 < k) = true) (ln : N < 65536 ^ 200) (ld : D < 65536 ^ 200) (l5 : 5000 < 65536 ^ 200) (c : Int) (hc : Dg.cmpN N (D * 5000) = c) (hx : decide (0 < c) = false) (lo : 2199023255552 < 65536 ^ 200) (lq : 1000000 < 65536 ^ 200) (Q : Nat) (X r : Int)
    (HR : ∀ w va vb, Num w va (N * 2199023255552) → Num w vb (D * 1000000) → Calls Try.prog 38 #[va, vb, .bool false, .int .i64 2] w (RoundPost w Q false))
    (HI : ∀ w v, Num w v Q → Calls Try.prog 39 #[v, .bool false] w fun e w' => e = .returned (.tuple #[.int .i64 X, .bool true]) ∧ Below w.heap.size w w') (hm : x = false) (hr : wrap64 (2199023255552 + X) = r) (w : World) :
    Calls Try.prog 12 #[.int .u64 (b : Int)] w fun e w' => e = .returned (.tuple #[.int .i64 r, .int .i64 0]) ∧ Below w.heap.size w w' := by
  subst hm
  have H5 : ∀ w, Calls Try.prog 21 #[.int .u64 5000] w (NumPost w 5000) := fun w => of_any 5000 (by omega) w
  have H1 : ∀ w, Calls Try.prog 21 #[.int .u64 2199023255552] w (NumPost w 2199023255552) := fun w => of_any 2199023255552 (by omega) w
  have H6 : ∀ w, Calls Try.prog 21 #[.int .u64 1000000] w (NumPost w 1000000) := fun w => of_any 1000000 (by omega) w
  go_enter Try.func12, Try.ntmps12
  go_wp2_with (first
    | (go_at_call 18; (with_reducible refine (HP _).mono ?_); rintro e wx ⟨v1, rfl, hn, hb, hf⟩; have HN := Lib.hid hn; have HB := Lib.hid hb; clear hn hb hf)
    | (go_at_call 37; (with_reducible refine (HW _).mono ?_); rintro e wx ⟨v2, rfl, hn, hb, hf⟩; have HD := Lib.hid hn; (first | replace HN := Lib.hid (HN.out.below hb) | replace HN := Lib.hid (HN.out.below (bTr' (bAl (bRef' _) _) hb))); (first | replace HB := Lib.hid (bTr' HB.out hb) | replace HB := Lib.hid (bTr' (bDr' HB.out _) hb) | replace HB := Lib.hid (bTr' (bAl HB.out _) hb)); clear hn hb hf)
    | (go_at_call 21; (with_reducible refine (H5 _).mono ?_); rintro e wx ⟨v3, rfl, hn, hb, hf⟩; have HT := Lib.hid hn; (first | replace HN := Lib.hid (HN.out.below hb) | replace HN := Lib.hid (HN.out.below (bTr' (bAl (bRef' _) _) hb))); (first | replace HD := Lib.hid (HD.out.below hb) | replace HD := Lib.hid (HD.out.below (bTr' (bAl (bRef' _) _) hb))); (first | replace HB := Lib.hid (bTr' HB.out hb) | replace HB := Lib.hid (bTr' (bDr' HB.out _) hb) | replace HB := Lib.hid (bTr' (bAl HB.out _) hb)); clear hn hb hf)
    | (go_at_call 19; (with_reducible refine (mul_any HD.out HT.out (L := 200) ld l5 (by omega)).mono ?_); rintro e wx ⟨v4, rfl, hn, hb, hf⟩; have HM := Lib.hid hn; (first | replace HN := Lib.hid (HN.out.below hb) | replace HN := Lib.hid (HN.out.below (bTr' (bAl (bRef' _) _) hb))); (first | replace HD := Lib.hid (HD.out.below hb) | replace HD := Lib.hid (HD.out.below (bTr' (bAl (bRef' _) _) hb))); (first | replace HB := Lib.hid (bTr' HB.out hb) | replace HB := Lib.hid (bTr' (bDr' HB.out _) hb) | replace HB := Lib.hid (bTr' (bAl HB.out _) hb)); clear hn hb hf)
    | (go_at_call 23; (with_reducible refine (cmp_at HN.out HM.out (L := 200) ln (by omega) hc).mono ?_); rintro e wx ⟨rfl, q, rfl⟩; replace HN := Lib.hid (HN.out.drewN q); replace HD := Lib.hid (HD.out.drewN q); replace HB := Lib.hid (bDr' HB.out q))
    | (go_at_call 21; (with_reducible refine (H1 _).mono ?_); rintro e wx ⟨v5, rfl, hn, hb, hf⟩; have HO := Lib.hid hn; (first | replace HN := Lib.hid (HN.out.below hb) | replace HN := Lib.hid (HN.out.below (bTr' (bAl (bRef' _) _) hb))); (first | replace HD := Lib.hid (HD.out.below hb) | replace HD := Lib.hid (HD.out.below (bTr' (bAl (bRef' _) _) hb))); (first | replace HB := Lib.hid (bTr' HB.out hb) | replace HB := Lib.hid (bTr' (bDr' HB.out _) hb) | replace HB := Lib.hid (bTr' (bAl HB.out _) hb)); clear hn hb hf)
    | (go_at_call 19; (with_reducible refine (mul_any HN.out HO.out (L := 200) ln lo (by omega)).mono ?_); rintro e wx ⟨v6, rfl, hn, hb, hf⟩; have HX := Lib.hid hn; (first | replace HD := Lib.hid (HD.out.below hb) | replace HD := Lib.hid (HD.out.below (bTr' (bAl (bRef' _) _) hb))); (first | replace HB := Lib.hid (bTr' HB.out hb) | replace HB := Lib.hid (bTr' (bDr' HB.out _) hb) | replace HB := Lib.hid (bTr' (bAl HB.out _) hb)); clear hn hb hf)
    | (go_at_call 21; (with_reducible refine (H6 _).mono ?_); rintro e wx ⟨v7, rfl, hn, hb, hf⟩; have HQ := Lib.hid hn; (first | replace HX := Lib.hid (HX.out.below hb) | replace HX := Lib.hid (HX.out.below (bTr' (bAl (bRef' _) _) hb))); (first | replace HD := Lib.hid (HD.out.below hb) | replace HD := Lib.hid (HD.out.below (bTr' (bAl (bRef' _) _) hb))); (first | replace HB := Lib.hid (bTr' HB.out hb) | replace HB := Lib.hid (bTr' (bDr' HB.out _) hb) | replace HB := Lib.hid (bTr' (bAl HB.out _) hb)); clear hn hb hf)
    | (go_at_call 19; (with_reducible refine (mul_any HD.out HQ.out (L := 200) ld lq (by omega)).mono ?_); rintro e wx ⟨v8, rfl, hn, hb, hf⟩; have HY := Lib.hid hn; (first | replace HX := Lib.hid (HX.out.below hb) | replace HX := Lib.hid (HX.out.below (bTr' (bAl (bRef' _) _) hb))); (first | replace HB := Lib.hid (bTr' HB.out hb) | replace HB := Lib.hid (bTr' (bDr' HB.out _) hb) | replace HB := Lib.hid (bTr' (bAl HB.out _) hb)); clear hn hb hf)
    | (go_at_call 38; (with_reducible refine (HR _ _ _ HX.out HY.out).mono ?_); rintro e wx ⟨v9, rfl, hn, hb⟩; have HV := Lib.hid hn; (first | replace HB := Lib.hid (bTr' HB.out hb) | replace HB := Lib.hid (bTr' (bDr' HB.out _) hb) | replace HB := Lib.hid (bTr' (bAl HB.out _) hb)); clear hn hb)
    | (go_at_call 39; (with_reducible refine (HI _ _ HV.out).mono ?_); rintro e wx ⟨rfl, hb⟩; (first | replace HB := Lib.hid (bTr' HB.out hb) | replace HB := Lib.hid (bTr' (bDr' HB.out _) hb) | replace HB := Lib.hid (bTr' (bAl HB.out _) hb)); clear hb))
  go_ret2
  exact ⟨by rw [← hr]; rfl, HB.out⟩

set_option maxHeartbeats 2000000 in
theorem rof_neg (b N : Nat) (k : Int) (x : Bool) (HP : ∀ w, Calls Try.prog 18 #[.int .u64 (b : Int)] w (PartsPost w x N k)) (D : Nat) (HW : ∀ w, Calls Try.prog 37 #[.int .i64 k] w (NumPost w D)) (hk : decide (0 < k) = true) (ln : N < 65536 ^ 200) (ld : D < 65536 ^ 200) (l5 : 5000 < 65536 ^ 200) (c : Int) (hc : Dg.cmpN N (D * 5000) = c) (hx : decide (0 < c) = false) (lo : 2199023255552 < 65536 ^ 200) (lq : 1000000 < 65536 ^ 200) (Q : Nat) (X r : Int)
    (HR : ∀ w va vb, Num w va (N * 2199023255552) → Num w vb (D * 1000000) → Calls Try.prog 38 #[va, vb, .bool false, .int .i64 2] w (RoundPost w Q false))
    (HI : ∀ w v, Num w v Q → Calls Try.prog 39 #[v, .bool false] w fun e w' => e = .returned (.tuple #[.int .i64 X, .bool true]) ∧ Below w.heap.size w w') (hm : x = true) (hr : wrap64 (2199023255552 - X) = r) (w : World) :
    Calls Try.prog 12 #[.int .u64 (b : Int)] w fun e w' => e = .returned (.tuple #[.int .i64 r, .int .i64 0]) ∧ Below w.heap.size w w' := by
  subst hm
  have H5 : ∀ w, Calls Try.prog 21 #[.int .u64 5000] w (NumPost w 5000) := fun w => of_any 5000 (by omega) w
  have H1 : ∀ w, Calls Try.prog 21 #[.int .u64 2199023255552] w (NumPost w 2199023255552) := fun w => of_any 2199023255552 (by omega) w
  have H6 : ∀ w, Calls Try.prog 21 #[.int .u64 1000000] w (NumPost w 1000000) := fun w => of_any 1000000 (by omega) w
  go_enter Try.func12, Try.ntmps12
  go_wp2_with (first
    | (go_at_call 18; (with_reducible refine (HP _).mono ?_); rintro e wx ⟨v1, rfl, hn, hb, hf⟩; have HN := Lib.hid hn; have HB := Lib.hid hb; clear hn hb hf)
    | (go_at_call 37; (with_reducible refine (HW _).mono ?_); rintro e wx ⟨v2, rfl, hn, hb, hf⟩; have HD := Lib.hid hn; (first | replace HN := Lib.hid (HN.out.below hb) | replace HN := Lib.hid (HN.out.below (bTr' (bAl (bRef' _) _) hb))); (first | replace HB := Lib.hid (bTr' HB.out hb) | replace HB := Lib.hid (bTr' (bDr' HB.out _) hb) | replace HB := Lib.hid (bTr' (bAl HB.out _) hb)); clear hn hb hf)
    | (go_at_call 21; (with_reducible refine (H5 _).mono ?_); rintro e wx ⟨v3, rfl, hn, hb, hf⟩; have HT := Lib.hid hn; (first | replace HN := Lib.hid (HN.out.below hb) | replace HN := Lib.hid (HN.out.below (bTr' (bAl (bRef' _) _) hb))); (first | replace HD := Lib.hid (HD.out.below hb) | replace HD := Lib.hid (HD.out.below (bTr' (bAl (bRef' _) _) hb))); (first | replace HB := Lib.hid (bTr' HB.out hb) | replace HB := Lib.hid (bTr' (bDr' HB.out _) hb) | replace HB := Lib.hid (bTr' (bAl HB.out _) hb)); clear hn hb hf)
    | (go_at_call 19; (with_reducible refine (mul_any HD.out HT.out (L := 200) ld l5 (by omega)).mono ?_); rintro e wx ⟨v4, rfl, hn, hb, hf⟩; have HM := Lib.hid hn; (first | replace HN := Lib.hid (HN.out.below hb) | replace HN := Lib.hid (HN.out.below (bTr' (bAl (bRef' _) _) hb))); (first | replace HD := Lib.hid (HD.out.below hb) | replace HD := Lib.hid (HD.out.below (bTr' (bAl (bRef' _) _) hb))); (first | replace HB := Lib.hid (bTr' HB.out hb) | replace HB := Lib.hid (bTr' (bDr' HB.out _) hb) | replace HB := Lib.hid (bTr' (bAl HB.out _) hb)); clear hn hb hf)
    | (go_at_call 23; (with_reducible refine (cmp_at HN.out HM.out (L := 200) ln (by omega) hc).mono ?_); rintro e wx ⟨rfl, q, rfl⟩; replace HN := Lib.hid (HN.out.drewN q); replace HD := Lib.hid (HD.out.drewN q); replace HB := Lib.hid (bDr' HB.out q))
    | (go_at_call 21; (with_reducible refine (H1 _).mono ?_); rintro e wx ⟨v5, rfl, hn, hb, hf⟩; have HO := Lib.hid hn; (first | replace HN := Lib.hid (HN.out.below hb) | replace HN := Lib.hid (HN.out.below (bTr' (bAl (bRef' _) _) hb))); (first | replace HD := Lib.hid (HD.out.below hb) | replace HD := Lib.hid (HD.out.below (bTr' (bAl (bRef' _) _) hb))); (first | replace HB := Lib.hid (bTr' HB.out hb) | replace HB := Lib.hid (bTr' (bDr' HB.out _) hb) | replace HB := Lib.hid (bTr' (bAl HB.out _) hb)); clear hn hb hf)
    | (go_at_call 19; (with_reducible refine (mul_any HN.out HO.out (L := 200) ln lo (by omega)).mono ?_); rintro e wx ⟨v6, rfl, hn, hb, hf⟩; have HX := Lib.hid hn; (first | replace HD := Lib.hid (HD.out.below hb) | replace HD := Lib.hid (HD.out.below (bTr' (bAl (bRef' _) _) hb))); (first | replace HB := Lib.hid (bTr' HB.out hb) | replace HB := Lib.hid (bTr' (bDr' HB.out _) hb) | replace HB := Lib.hid (bTr' (bAl HB.out _) hb)); clear hn hb hf)
    | (go_at_call 21; (with_reducible refine (H6 _).mono ?_); rintro e wx ⟨v7, rfl, hn, hb, hf⟩; have HQ := Lib.hid hn; (first | replace HX := Lib.hid (HX.out.below hb) | replace HX := Lib.hid (HX.out.below (bTr' (bAl (bRef' _) _) hb))); (first | replace HD := Lib.hid (HD.out.below hb) | replace HD := Lib.hid (HD.out.below (bTr' (bAl (bRef' _) _) hb))); (first | replace HB := Lib.hid (bTr' HB.out hb) | replace HB := Lib.hid (bTr' (bDr' HB.out _) hb) | replace HB := Lib.hid (bTr' (bAl HB.out _) hb)); clear hn hb hf)
    | (go_at_call 19; (with_reducible refine (mul_any HD.out HQ.out (L := 200) ld lq (by omega)).mono ?_); rintro e wx ⟨v8, rfl, hn, hb, hf⟩; have HY := Lib.hid hn; (first | replace HX := Lib.hid (HX.out.below hb) | replace HX := Lib.hid (HX.out.below (bTr' (bAl (bRef' _) _) hb))); (first | replace HB := Lib.hid (bTr' HB.out hb) | replace HB := Lib.hid (bTr' (bDr' HB.out _) hb) | replace HB := Lib.hid (bTr' (bAl HB.out _) hb)); clear hn hb hf)
    | (go_at_call 38; (with_reducible refine (HR _ _ _ HX.out HY.out).mono ?_); rintro e wx ⟨v9, rfl, hn, hb⟩; have HV := Lib.hid hn; (first | replace HB := Lib.hid (bTr' HB.out hb) | replace HB := Lib.hid (bTr' (bDr' HB.out _) hb) | replace HB := Lib.hid (bTr' (bAl HB.out _) hb)); clear hn hb)
    | (go_at_call 39; (with_reducible refine (HI _ _ HV.out).mono ?_); rintro e wx ⟨rfl, hb⟩; (first | replace HB := Lib.hid (bTr' HB.out hb) | replace HB := Lib.hid (bTr' (bDr' HB.out _) hb) | replace HB := Lib.hid (bTr' (bAl HB.out _) hb)); clear hb))
  go_ret2
  exact ⟨by rw [← hr]; rfl, HB.out⟩

set_option maxHeartbeats 2000000 in
theorem rof_big (b N : Nat) (k : Int) (x : Bool) (HP : ∀ w, Calls Try.prog 18 #[.int .u64 (b : Int)] w (PartsPost w x N k)) (k2 : Int) (P : Nat) (hk : decide (0 < k) = false) (hk2 : wrap64 (-k) = k2) (HW : ∀ w, Calls Try.prog 37 #[.int .i64 k2] w (NumPost w P)) (ln : N < 65536 ^ 200) (lp : P < 65536 ^ 200) (lm : N * P < 65536 ^ 200) (ld : 1 < 65536 ^ 200) (l5 : 5000 < 65536 ^ 200) (c : Int) (hc : Dg.cmpN (N * P) (1 * 5000) = c) (hx : decide (0 < c) = true) (w : World) :
    Calls Try.prog 12 #[.int .u64 (b : Int)] w fun e w' => e = .returned (.tuple #[.int .i64 0, .int .i64 50]) ∧ Below w.heap.size w w' := by
  have H5 : ∀ w, Calls Try.prog 21 #[.int .u64 5000] w (NumPost w 5000) := fun w => of_any 5000 (by omega) w
  have H1 : ∀ w, Calls Try.prog 21 #[.int .u64 2199023255552] w (NumPost w 2199023255552) := fun w => of_any 2199023255552 (by omega) w
  have H6 : ∀ w, Calls Try.prog 21 #[.int .u64 1000000] w (NumPost w 1000000) := fun w => of_any 1000000 (by omega) w
  go_enter Try.func12, Try.ntmps12
  go_wp2_with (first
    | (go_at_call 18; (with_reducible refine (HP _).mono ?_); rintro e wx ⟨v1, rfl, hn, hb, hf⟩; have HN := Lib.hid hn; have HB := Lib.hid hb; clear hn hb hf)
    | (go_at_call 37; (with_reducible refine (HW _).mono ?_); rintro e wx ⟨v2, rfl, hn, hb, hf⟩; have HT := Lib.hid hn; have HD := Lib.hid ((num_one _).below hb); (first | replace HN := Lib.hid (HN.out.below hb) | replace HN := Lib.hid (HN.out.below (bTr' (bAl (bRef' _) _) hb)));(first | replace HB := Lib.hid (bTr' HB.out hb) | replace HB := Lib.hid (bTr' (bDr' HB.out _) hb) | replace HB := Lib.hid (bTr' (bAl HB.out _) hb)); clear hn hb hf)
    | (go_at_call 19; (with_reducible refine (mul_any HN.out HT.out (L := 200) ln lp (by omega)).mono ?_); rintro e wx ⟨v3, rfl, hn, hb, hf⟩; replace HN := Lib.hid hn; (first | replace HD := Lib.hid (HD.out.below hb) | replace HD := Lib.hid (HD.out.below (bTr' (bAl (bRef' _) _) hb)));(first | replace HB := Lib.hid (bTr' HB.out hb) | replace HB := Lib.hid (bTr' (bDr' HB.out _) hb) | replace HB := Lib.hid (bTr' (bAl HB.out _) hb)); clear hn hb hf HT)
    | (go_at_call 21; (with_reducible refine (H5 _).mono ?_); rintro e wx ⟨v3, rfl, hn, hb, hf⟩; have HT := Lib.hid hn; (first | replace HN := Lib.hid (HN.out.below hb) | replace HN := Lib.hid (HN.out.below (bTr' (bAl (bRef' _) _) hb))); (first | replace HD := Lib.hid (HD.out.below hb) | replace HD := Lib.hid (HD.out.below (bTr' (bAl (bRef' _) _) hb))); (first | replace HB := Lib.hid (bTr' HB.out hb) | replace HB := Lib.hid (bTr' (bDr' HB.out _) hb) | replace HB := Lib.hid (bTr' (bAl HB.out _) hb)); clear hn hb hf)
    | (go_at_call 19; (with_reducible refine (mul_any HD.out HT.out (L := 200) ld l5 (by omega)).mono ?_); rintro e wx ⟨v4, rfl, hn, hb, hf⟩; have HM := Lib.hid hn; (first | replace HN := Lib.hid (HN.out.below hb) | replace HN := Lib.hid (HN.out.below (bTr' (bAl (bRef' _) _) hb))); (first | replace HD := Lib.hid (HD.out.below hb) | replace HD := Lib.hid (HD.out.below (bTr' (bAl (bRef' _) _) hb))); (first | replace HB := Lib.hid (bTr' HB.out hb) | replace HB := Lib.hid (bTr' (bDr' HB.out _) hb) | replace HB := Lib.hid (bTr' (bAl HB.out _) hb)); clear hn hb hf)
    | (go_at_call 23; (with_reducible refine (cmp_at HN.out HM.out (L := 200) lm (by omega) hc).mono ?_); rintro e wx ⟨rfl, q, rfl⟩; replace HN := Lib.hid (HN.out.drewN q); replace HD := Lib.hid (HD.out.drewN q); replace HB := Lib.hid (bDr' HB.out q)))
  go_ret2
  exact ⟨rfl, HB.out⟩

theorem rdM_rUp (n d : Nat) (hd : 0 < d) : rdM (n / d) (n % d) d false 2 = rUp n d := by
  have hl := Nat.mod_lt n hd
  rw [rdM_goes _ _ _ _ _ hl, goes_rUp n d hd]
theorem small_lt (x : Nat) (h : x < 18446744073709551616) : x < 65536 ^ 200 := by
  have h1 : 65536 ^ 4 ≤ 65536 ^ 200 := Nat.pow_le_pow_right (by omega) (by omega)
  have e : (65536 : Nat) ^ 4 = 18446744073709551616 := by decide
  omega
theorem mag_le {b : Nat} : mag b < 9007199254740992 := by unfold mag; split <;> omega
theorem mag_ge {b : Nat} (h : 2 ≤ ex b) : 4503599627370496 ≤ mag b := by
  unfold ex at h
  unfold mag
  split
  · rename_i hh; rw [if_pos hh] at h; omega
  · omega
theorem ex_le {b : Nat} (h : Fin64 b) : 1 ≤ ex b ∧ ex b ≤ 2046 := by
  have := h.2
  unfold ex; split <;> omega
theorem ex_top {b : Nat} (h : rung b ≤ 4662219572839972864) : ex b ≤ 1035 := by unfold ex; split <;> omega
theorem top_val : val 4662219572839972864 = 5000 * 2 ^ k74 := by
  rw [val_top, k74_eq, Nat.pow_add, ← Nat.mul_assoc]

theorem out_iff {b : Nat} (h : ex b ≤ 1074) : 2 ^ (1075 - ex b) * 5000 < mag b ↔ 4662219572839972864 < rung b := by
  rw [← @val_lt_iff 4662219572839972864 (rung b), mag_val, top_val]
  have h1 : 1 ≤ ex b := by unfold ex; split <;> omega
  have e : 5000 * 2 ^ k74 = 2 ^ (1075 - ex b) * 5000 * 2 ^ (ex b - 1) := by
    rw [Nat.mul_comm _ 5000, Nat.mul_assoc, ← Nat.pow_add]
    congr 2; unfold k74; omega
  rw [e]
  exact ⟨fun h => Nat.mul_lt_mul_of_pos_right h (Nat.two_pow_pos _), fun h => Nat.lt_of_mul_lt_mul_right h⟩
theorem off_ref {b : Nat} (h : ex b ≤ 1074) : rq (mag b * 2199023255552) (2 ^ (1075 - ex b) * 1000000) = off b := by
  have h1 : 1 ≤ ex b := by unfold ex; split <;> omega
  have hp := Nat.two_pow_pos (ex b - 1)
  rw [← rq_scale _ _ _ hp, show off b = rq (val (rung b)) (15625 * 2 ^ k39) from rfl, ← rq_scale (val (rung b)) (15625 * 2 ^ k39) (2 ^ 41) (Nat.two_pow_pos _), mag_val]
  have e1 : mag b * 2199023255552 * 2 ^ (ex b - 1) = mag b * 2 ^ (ex b - 1) * 2 ^ 41 := by
    rw [show (2199023255552 : Nat) = 2 ^ 41 from rfl, Nat.mul_right_comm]
  have e2 : 2 ^ (1075 - ex b) * 1000000 * 2 ^ (ex b - 1) = 15625 * 2 ^ k39 * 2 ^ 41 := by
    have e3 : 1075 - ex b + 6 + (ex b - 1) = k39 + 41 := by unfold k39; omega
    rw [show (1000000 : Nat) = 2 ^ 6 * 15625 from rfl, ← Nat.mul_assoc, ← Nat.pow_add, Nat.mul_right_comm, ← Nat.pow_add, e3, Nat.pow_add, Nat.mul_comm, ← Nat.mul_assoc]
  rw [e1, e2]

theorem refOf_ret {b : Nat} (h : b < 18446744073709551616) : Ret 12 #[.int .u64 (b : Int)] (.tuple #[.int .i64 (ofV b), .int .i64 (ofE b)]) := fun w => by
  by_cases h1 : 9218868437227405312 ≤ rung b
  · rw [show ofV b = 0 from if_pos (by omega)]
    refine rof_none b _ _ _ ?_ (parts_inf h h1) w
    unfold ofE
    by_cases h2 : rung b = 9218868437227405312
    · rw [if_neg (by omega), if_pos h2, decide_eq_true h2]; rfl
    · rw [if_pos (by omega), decide_eq_false h2]; rfl
  have hf : Fin64 b := ⟨h, by omega⟩
  obtain ⟨x1, x2⟩ := ex_le hf
  have HP := parts_fin hf
  have lm := @mag_le b
  have e0 : ofE b = if 4662219572839972864 < rung b then 50 else 0 := (if_neg (by omega)).trans (if_neg (by omega))
  by_cases hb : ex b ≤ 1074
  · have hk : decide (0 < (1075 - (ex b : Int))) = true := decide_eq_true (by omega)
    have HW : ∀ w, Calls Try.prog 37 #[.int .i64 (1075 - (ex b : Int))] w (NumPost w (2 ^ (1075 - ex b))) := fun w => by
      have := power_any (1075 - ex b) (by omega) w
      rwa [show ((1075 - ex b : Nat) : Int) = 1075 - (ex b : Int) by omega] at this
    have ho := out_iff hb
    by_cases h3 : 4662219572839972864 < rung b
    · rw [show ofV b = 0 from if_pos h3, e0, if_pos h3]
      exact rof_out b (mag b) _ _ HP _ HW hk (small_lt _ (by omega)) (two_pow_lt (by omega)) (small_lt _ (by omega)) 1 (Dg.cmpN_gt (ho.2 h3)) (by decide) w
    · rw [show ofV b = 2199023255552 + soff b from if_neg h3, e0, if_neg h3]
      obtain ⟨c, hc, hc2⟩ : ∃ c, Dg.cmpN (mag b) (2 ^ (1075 - ex b) * 5000) = c ∧ ¬ 0 < c := by
        refine ⟨_, rfl, ?_⟩
        have h4 : ¬ 2 ^ (1075 - ex b) * 5000 < mag b := fun hh => h3 (ho.1 hh)
        unfold Dg.cmpN
        rw [if_neg h4]
        split <;> omega
      have hD : 0 < 2 ^ (1075 - ex b) * 1000000 := Nat.mul_pos (Nat.two_pow_pos _) (by omega)
      have hO := off_ref hb
      have hol := off_le (b := b) (by omega)
      have HR : ∀ w va vb, Num w va (mag b * 2199023255552) → Num w vb (2 ^ (1075 - ex b) * 1000000) → Calls Try.prog 38 #[va, vb, .bool false, .int .i64 2] w (RoundPost w (off b) false) := fun w va vb ha hb' => by
        have hla : mag b * 2199023255552 < 65536 ^ 250 := by
          have h1 : 65536 ^ 7 ≤ 65536 ^ 250 := Nat.pow_le_pow_right (by omega) (by omega)
          have e : (65536 : Nat) ^ 7 = 5192296858534827628530496329220096 := by decide
          omega
        have hlb : 2 ^ (1075 - ex b) * 1000000 < 65536 ^ 250 := by
          have h2 : 2 ^ (1075 - ex b) * 1000000 < 2 ^ (1075 - ex b) * 2 ^ 20 := Nat.mul_lt_mul_of_pos_left (by decide) (Nat.two_pow_pos _)
          rw [← Nat.pow_add] at h2
          exact Nat.lt_trans h2 (two_pow_lt (by omega))
        have := round_any va vb _ _ 250 w false 2 ha hb' hD hla hlb (by omega) (by omega)
        rw [rdM_rUp _ _ hD] at this
        rw [← hO]
        exact this
      have HI : ∀ w v, Num w v (off b) → Calls Try.prog 39 #[v, .bool false] w fun e w' => e = .returned (.tuple #[.int .i64 ((off b : Nat) : Int), .bool true]) ∧ Below w.heap.size w w' := fun w v hv => by
        have hl9 : off b < 65536 ^ 9 := Nat.lt_of_le_of_lt hol (by decide)
        have := int_any v (off b) false w hv hl9
        have ho : intOver (off b) false = false := by unfold intOver; simp; omega
        simpa [ho, intVal] using this
      unfold soff
      by_cases hs : 9223372036854775808 ≤ b
      · rw [if_pos hs]
        exact rof_neg b (mag b) _ _ HP _ HW hk (small_lt _ (by omega)) (two_pow_lt (by omega)) (small_lt _ (by omega)) c hc (decide_eq_false hc2) (small_lt _ (by omega)) (small_lt _ (by omega)) (off b) _ _ HR HI (decide_eq_true hs) ((IntWalk.wrap64_in _ ⟨by omega, by omega⟩).trans (by omega)) w
      · rw [if_neg hs]
        exact rof_pos b (mag b) _ _ HP _ HW hk (small_lt _ (by omega)) (two_pow_lt (by omega)) (small_lt _ (by omega)) c hc (decide_eq_false hc2) (small_lt _ (by omega)) (small_lt _ (by omega)) (off b) _ _ HR HI (decide_eq_false hs) ((IntWalk.wrap64_in _ ⟨by omega, by omega⟩).trans (by omega)) w
  · have hk : decide (0 < (1075 - (ex b : Int))) = false := decide_eq_false (by omega)
    have h3 : 4662219572839972864 < rung b := by
      refine Nat.not_le.1 fun hh => ?_
      have := ex_top hh
      omega
    rw [show ofV b = 0 from if_pos h3, e0, if_pos h3]
    have HW : ∀ w, Calls Try.prog 37 #[.int .i64 ((ex b - 1075 : Nat) : Int)] w (NumPost w (2 ^ (ex b - 1075))) := fun w => power_any (ex b - 1075) (by omega) w
    have hp := Nat.two_pow_pos (ex b - 1075)
    have hge := mag_ge (b := b) (by omega)
    have hmul : 4503599627370496 ≤ mag b * 2 ^ (ex b - 1075) := Nat.le_trans hge (Nat.le_mul_of_pos_right _ hp)
    have hlm : mag b * 2 ^ (ex b - 1075) < 65536 ^ 200 := by
      have h2 : mag b * 2 ^ (ex b - 1075) < 2 ^ 53 * 2 ^ (ex b - 1075) := Nat.mul_lt_mul_of_pos_right lm hp
      rw [← Nat.pow_add] at h2
      exact Nat.lt_trans h2 (two_pow_lt (by omega))
    exact rof_big b (mag b) _ _ HP _ _ hk (by unfold wrap64; omega) HW (small_lt _ (by omega)) (two_pow_lt (by omega)) hlm (small_lt _ (by omega)) (small_lt _ (by omega)) 1 (Dg.cmpN_gt (by omega)) (by decide) w

end Go.Proofs.Ytfohfpeeghnocab
