/- For every start, turns, time and span OscGrows answers true: a clock always goes on, and between two true times as far as its rates allow. No condition. -/
import Derived.Test.YtffjbngelapmmaaFOscGrows
import Derived.Test.YtffjbngelapmmaaOsNew
import Derived.Test.YtffjbngelapmmaaNearest
namespace Go.Proofs.Ytffjbngelapmmaa
open Go.RowKit Go.Joins

theorem grows_many (p : Option Addr) (n c : Nat) (s x y : Int) (w : World) (h : 64 < n) :
    Calls Try.prog 5 #[.int .i64 s, .slice p n c, .int .i64 x, .int .i64 y] w fun e w' => e = .returned (.bool true) ∧ Below w.heap.size w w' := by
  have HH := head_ret
  have d1 : decide ((64 : Int) < (n : Int)) = true := decide_eq_true (by omega)
  go_enter Try.func5, Try.ntmps5
  go_wp2_with (first
    | (go_at_call 8; (with_reducible refine (HH.go _).mono ?_); rintro e w1 ⟨rfl, hb⟩; have HB := Lib.hid hb; clear hb))
  go_ret
  exact ⟨rfl, HB.out⟩
theorem grows_none (p : Option Addr) (n c : Nat) (s x y z : Int) (ts : List (Int × Int)) (w : World) (h : TArg w (.slice p n c) ts) (hn : n ≤ 64) (hx : newE s 1 ts = z) (h0 : z ≠ 0) :
    Calls Try.prog 5 #[.int .i64 s, .slice p n c, .int .i64 x, .int .i64 y] w fun e w' => e = .returned (.bool true) ∧ Below w.heap.size w w' := by
  have HH := head_ret
  have d1 : decide ((64 : Int) < (n : Int)) = false := decide_eq_false (by omega)
  have d2 : (z != 0) = true := by rw [bne_iff_ne]; exact h0
  have HN := newWrong h hx h0
  clear h hx h0
  go_enter Try.func5, Try.ntmps5
  go_wp2_with (first
    | (go_at_call 8; (with_reducible refine (HH.go _).mono ?_); rintro e w1 ⟨rfl, hb⟩; have HB := Lib.hid hb; clear hb)
    | (go_at_call 9; (with_reducible refine (HN.out _ HB.out).mono ?_); rintro e w2 ⟨rfl, hb⟩; replace HB := Lib.hid (bTr HB.out hb); clear hb))
  go_ret
  exact ⟨rfl, HB.out⟩
set_option maxHeartbeats 1000000 in
theorem grows_out (p : Option Addr) (n c : Nat) (s x y : Int) (ts : List (Int × Int)) (w : World) (h : TArg w (.slice p n c) ts) (hn : n ≤ 64) (hx : newE s 1 ts = 0) (ho : x < 0 ∨ y < 1 ∨ 549755813888 < x ∨ 549755813888 < y) :
    Calls Try.prog 5 #[.int .i64 s, .slice p n c, .int .i64 x, .int .i64 y] w fun e w' => e = .returned (.bool true) ∧ Below w.heap.size w w' := by
  have HH := head_ret
  have d1 : decide ((64 : Int) < (n : Int)) = false := decide_eq_false (by omega)
  have HN := newRight h hx
  clear h hx
  by_cases h1 : x < 0
  · have d2 : decide (x < 0) = true := decide_eq_true h1
    clear ho
    go_enter Try.func5, Try.ntmps5
    go_wp2_with (first
      | (go_at_call 8; (with_reducible refine (HH.go _).mono ?_); rintro e w1 ⟨rfl, hb⟩; have HB := Lib.hid hb; clear hb)
      | (go_at_call 9; (with_reducible refine (HN.out _ HB.out).mono ?_); rintro e w2 ⟨b1, rfl, hc, hb⟩; replace HB := Lib.hid (bTr HB.out hb); clear hc hb HN))
    go_ret
    exact ⟨rfl, HB.out⟩
  have d2 : decide (x < 0) = false := decide_eq_false h1
  by_cases h2 : y < 1
  · have d3 : decide (y < 1) = true := decide_eq_true h2
    clear ho
    go_enter Try.func5, Try.ntmps5
    go_wp2_with (first
      | (go_at_call 8; (with_reducible refine (HH.go _).mono ?_); rintro e w1 ⟨rfl, hb⟩; have HB := Lib.hid hb; clear hb)
      | (go_at_call 9; (with_reducible refine (HN.out _ HB.out).mono ?_); rintro e w2 ⟨b1, rfl, hc, hb⟩; replace HB := Lib.hid (bTr HB.out hb); clear hc hb HN))
    go_ret
    exact ⟨rfl, HB.out⟩
  have d3 : decide (y < 1) = false := decide_eq_false h2
  by_cases h3 : 549755813888 < x
  · have d4 : decide (549755813888 < x) = true := decide_eq_true h3
    clear ho
    go_enter Try.func5, Try.ntmps5
    go_wp2_with (first
      | (go_at_call 8; (with_reducible refine (HH.go _).mono ?_); rintro e w1 ⟨rfl, hb⟩; have HB := Lib.hid hb; clear hb)
      | (go_at_call 9; (with_reducible refine (HN.out _ HB.out).mono ?_); rintro e w2 ⟨b1, rfl, hc, hb⟩; replace HB := Lib.hid (bTr HB.out hb); clear hc hb HN))
    go_ret
    exact ⟨rfl, HB.out⟩
  have d4 : decide (549755813888 < x) = false := decide_eq_false h3
  have d5 : decide (549755813888 < y) = true := decide_eq_true (by omega)
  clear ho h1 h2 h3
  go_enter Try.func5, Try.ntmps5
  go_wp2_with (first
    | (go_at_call 8; (with_reducible refine (HH.go _).mono ?_); rintro e w1 ⟨rfl, hb⟩; have HB := Lib.hid hb; clear hb)
    | (go_at_call 9; (with_reducible refine (HN.out _ HB.out).mono ?_); rintro e w2 ⟨b1, rfl, hc, hb⟩; replace HB := Lib.hid (bTr HB.out hb); clear hc hb HN))
  go_ret
  exact ⟨rfl, HB.out⟩

/-- As much time by a clock that runs at a rate: near. -/
theorem by_near {y r : Int} (h0 : 1 ≤ y) (h1 : y ≤ 549755813888) (r0 : 2181843386368 ≤ r) (r1 : r ≤ 2216203124736) :
    ∃ q : Int, 0 ≤ q ∧ q ≤ 1099511627776 ∧ q * 2199023255552 ≤ y * r + 1099511627776 ∧ y * r ≤ q * 2199023255552 + 1099511627776 ∧ Ret 19 #[.int .i64 y, .int .i64 r] (.tuple #[.int .i64 q, .int .i64 0]) := by
  obtain ⟨q, q0, q1, q2, q3⟩ := near_nn r y 2199023255552 (by omega) (by omega) (by omega)
  have hm := Int.mul_le_mul_of_nonneg_left r1 (show 0 ≤ y by omega)
  rw [Int.mul_comm r y] at q1 q2
  have hq : q ≤ 1099511627776 := by omega
  obtain ⟨e1, e2⟩ := q3 (by omega)
  refine ⟨q, q0, hq, by omega, by omega, fun w => ?_⟩
  have H := rMul_ret (a := r) (b := y) ⟨by omega, by omega⟩ ⟨by omega, by omega⟩
  rw [e1, e2] at H
  clear q1 q2 q3 hm e1 e2
  go_enter Try.func19, Try.ntmps19
  go_wp2_with (go_at_call 30; (with_reducible refine (H.go _).mono ?_); rintro e w1 ⟨rfl, hb⟩; have HB := Lib.hid hb; clear hb)
  go_ret2
  exact ⟨rfl, HB.out⟩

def RateOk (r : Int) : Prop := 2181843386368 ≤ r ∧ r ≤ 2216203124736
def LoHi (w : World) (ts : List (Int × Int)) (lv hv kv : Value) (wr : World) : Prop :=
  ∃ (k : Nat) (lo hi : Int), k ≤ ts.length ∧ kv = .int .i64 (k : Int) ∧ lv = .int .i64 lo ∧ hv = .int .i64 hi ∧ RateOk lo ∧ RateOk hi ∧ (∀ j, j < k → lo ≤ tR ts j ∧ tR ts j ≤ hi) ∧ Below w.heap.size w wr
theorem lohi_go {w wr : World} {ts : List (Int × Int)} {k : Nat} {lo hi lo' hi' r ki : Int} (hk : k < ts.length) (h1 : RateOk lo) (h2 : RateOk hi) (hr : RateOk r) (hre : r = tR ts k) (h : ∀ j, j < k → lo ≤ tR ts j ∧ tR ts j ≤ hi) (hl : lo' = min lo r) (hh : hi' = max hi r) (hki : ki = (k : Int) + 1) (hb : Below w.heap.size w wr) :
    LoHi w ts (.int .i64 lo') (.int .i64 hi') (.int .i64 ki) wr := by
  unfold RateOk at h1 h2 hr
  refine ⟨k + 1, lo', hi', by omega, by rw [hki]; go_num, rfl, rfl, ⟨by omega, by omega⟩, ⟨by omega, by omega⟩, fun j hj => ?_, hb⟩
  rcases Nat.lt_or_ge j k with g | g
  · have := h j g; omega
  · obtain rfl : j = k := by omega
    omega

set_option maxHeartbeats 2000000 in
theorem grows_some (b o n c : Nat) (s x y : Int) (ts : List (Int × Int)) (w : World) (h : TArg w (.slice (some ⟨b, o, none⟩) n c) ts) (hnl : n = ts.length) (hr : RdT w b o ts) (hx : newE s 1 ts = 0) (x0 : 0 ≤ x) (y0 : 1 ≤ y) (x1 : x ≤ 549755813888) (y1 : y ≤ 549755813888) :
    Calls Try.prog 5 #[.int .i64 s, .slice (some ⟨b, o, none⟩) n c, .int .i64 x, .int .i64 y] w fun e w' => e = .returned (.bool true) ∧ Below w.heap.size w w' := by
  have HH := head_ret
  have HN := newRight h hx
  obtain ⟨hg, _, _, hs⟩ := newE_zero hx
  have hn : n ≤ 64 := by rw [hnl]; exact hg.len
  have h0 : 0 < n := by rw [hnl]; exact hg.pos
  have d1 : decide ((64 : Int) < (n : Int)) = false := decide_eq_false (by omega)
  have d2 : decide (x < 0) = false := decide_eq_false (by omega)
  have d3 : decide (y < 1) = false := decide_eq_false (by omega)
  have d4 : decide (549755813888 < x) = false := decide_eq_false (by omega)
  have d5 : decide (549755813888 < y) = false := decide_eq_false (by omega)
  have HG := Lib.hid hg
  have HS : Hid (Start s) := Lib.hid hs
  have HX : Hid ((0 : Int) ≤ x ∧ x ≤ 1099511627776) := Lib.hid ⟨by omega, by omega⟩
  have HXY : Hid ((0 : Int) ≤ x + y ∧ x + y ≤ 1099511627776) := Lib.hid ⟨by omega, by omega⟩
  have b1 := tell_in hg hs HX.out.1 HX.out.2
  have b2 := tell_in hg hs HXY.out.1 HXY.out.2
  have b3 := tell_on (s := s) hg (a := x) (b := x + y) (by omega) (by omega)
  obtain ⟨t, ht⟩ : ∃ t, tell s ts x = t := ⟨_, rfl⟩
  obtain ⟨u, hu⟩ : ∃ u, tell s ts (x + y) = u := ⟨_, rfl⟩
  rw [ht] at b1 b3
  rw [hu] at b2 b3
  have d6 : decide (u ≤ t) = false := decide_eq_false (by omega)
  have e1 : wrap64 (x + y) = x + y := by unfold wrap64; omega
  have Y0 : Hid (1 ≤ y) := Lib.hid y0
  have HD : Hid (wrap64 (u - t) = u - t) := Lib.hid (by unfold wrap64; omega)
  have HT := Lib.hid ht
  have HU := Lib.hid hu
  have HR := Lib.hid hr
  have HNL := Lib.hid hnl
  have r0 := hg.rate 0 hg.pos
  have c0 := (hr.2 0 hg.pos).2
  rw [show o + 0 * 2 + 1 = o + 1 by omega] at c0
  obtain ⟨r, hrr⟩ : ∃ r, tR ts 0 = r := ⟨_, rfl⟩
  rw [hrr] at r0 c0
  have hblt : b < w.heap.size := hr.1
  have C0 := Lib.hid c0
  have R0 : Hid (RateOk r) := Lib.hid r0
  clear h hnl hr hx hg hs ht hu b1 b2 b3 c0 r0 hrr x0 y0 x1
  go_enter Try.func5, Try.ntmps5
  go_wp2_with (first
    | (go_at_call 8; (with_reducible refine (HH.go _).mono ?_); rintro e w1 ⟨rfl, hb⟩; have HB := Lib.hid hb; clear hb)
    | (go_at_call 9; (with_reducible refine (HN.out _ HB.out).mono ?_); rintro e w2 ⟨b1, rfl, hc, hb⟩; have HC := Lib.hid hc; replace HB := Lib.hid (bTr HB.out hb); clear hc hb HN)
    | (go_at_call 12; (with_reducible refine (at_ok HC.out HG.out HS.out x HX.out.1 HX.out.2 t HT.out).mono ?_); rintro e w4 ⟨rfl, hb⟩; replace HC := Lib.hid (HC.out.below hb); replace HB := Lib.hid (bTr HB.out hb); clear hb)
    | (go_at_call 12; (with_reducible refine (at_ok HC.out HG.out HS.out (x + y) HXY.out.1 HXY.out.2 u HU.out).mono ?_); rintro e w5 ⟨rfl, hb⟩; replace HC := Lib.hid (HC.out.below hb); replace HB := Lib.hid (bTr HB.out hb); clear hb; have c0 : w5.cell? ⟨b, o + 1, none⟩ = some (.int .i64 r) := (HB.out.cell hblt).trans C0.out))
  go_loopw [15, 16, 88] (fun lv hv kv wr => LoHi w ts lv hv kv wr) (fun _ _ kv _ => n - (intOf kv).toNat)
  case atStart => exact ⟨0, r, r, by omega, rfl, rfl, rfl, R0.out, R0.out, fun j hj => absurd hj (Nat.not_lt_zero _), HB.out⟩
  case round =>
    clear HB HC c0
    obtain ⟨k, lo, hi, hk, rfl, rfl, rfl, hlo, hhi, hall, hb⟩ := hrel
    rw [← HNL.out] at hk
    have HB := Lib.hid hb
    have HALL := Lib.hid hall
    have HLO := Lib.hid hlo
    have HHI := Lib.hid hhi
    clear hb hall hlo hhi
    rcases Nat.lt_or_ge k n with g | g
    · have hd : decide ((k : Int) < (n : Int)) = true := decide_eq_true (by omega)
      obtain ⟨c1, c2⟩ := (HR.out.below HB.out).2 k (by rw [← HNL.out]; exact g)
      have hrk := HG.out.rate k (by rw [← HNL.out]; exact g)
      obtain ⟨a, ha⟩ : ∃ a, tA ts k = a := ⟨_, rfl⟩
      obtain ⟨q, hq⟩ : ∃ q, tR ts k = q := ⟨_, rfl⟩
      rw [ha] at c1
      rw [hq] at c2 hrk
      have HQ := Lib.hid hq
      have HRK : Hid (RateOk q) := Lib.hid hrk
      clear ha hq hrk
      go_wp2_with fail
      exact ⟨lohi_go (by rw [← HNL.out]; exact g) HLO.out HHI.out HRK.out HQ.out.symm HALL.out rfl rfl rfl (bAl HB.out _), by simp [intOf]; omega⟩
    · obtain rfl : k = n := by omega
      have hd : decide ((k : Int) < (k : Int)) = false := decide_eq_false (by omega)
      have hx0 := HX.out.1
      have hfar := tell_far (s := s) HG.out lo hi (fun j hj => (HALL.out j (by rw [HNL.out]; exact hj)).1) (fun j hj => (HALL.out j (by rw [HNL.out]; exact hj)).2) (a := x) (b := x + y) hx0 (by have := Y0.out; omega)
      rw [HT.out, HU.out, ← HNL.out, show x + y - x = y by omega] at hfar
      obtain ⟨q1, q10, q11, q12, q13, HQ1⟩ := by_near Y0.out y1 HLO.out.1 HLO.out.2
      obtain ⟨q2, q20, q21, q22, q23, HQ2⟩ := by_near Y0.out y1 HHI.out.1 HHI.out.2
      obtain ⟨D, hD⟩ : ∃ D, u - t = D := ⟨_, rfl⟩
      have e2 : wrap64 (u - t) = D := by rw [HD.out]; exact hD
      rw [hD] at hfar
      have d7 : decide ((q1 - 1) * 65536 - 2 * (k : Int) ≤ D) = true := decide_eq_true (by omega)
      have d8 : decide (D ≤ (q2 + 1) * 65536 + 2 * (k : Int)) = true := decide_eq_true (by omega)
      clear hfar q12 q13 q22 q23 hD hx0
      go_wp2_with (first
        | (go_at_call 19; (with_reducible refine (HQ1.go _).mono ?_); rintro e w6 ⟨rfl, hb⟩; replace HB := Lib.hid (bTr HB.out hb); clear hb)
        | (go_at_call 19; (with_reducible refine (HQ2.go _).mono ?_); rintro e w7 ⟨rfl, hb⟩; replace HB := Lib.hid (bTr HB.out hb); clear hb))
      go_ret
      exact ⟨by simp, HB.out⟩

theorem oscGrows_holds : Rows.OscGrowsSaid := oscGrows_of (fun s v ts x y w _ _ h _ _ _ _ => by
  have h' := h
  obtain ⟨p, c, rfl⟩ := h'.slice
  rcases Nat.lt_or_ge 64 ts.length with h1 | h1
  · exact grows_many p _ c s x y w h1
  · by_cases hx : newE s 1 ts = 0
    · by_cases ho : x < 0 ∨ y < 1 ∨ 549755813888 < x ∨ 549755813888 < y
      · exact grows_out p _ c s x y ts w h h1 hx ho
      · rcases h.2 with ⟨rfl, _⟩ | ⟨_, b, o, c', e, _, hr⟩
        · have := (newE_zero hx).1.pos; simp at this
        · injection e with e1 e2 e3
          subst e1 e3
          exact grows_some b o _ c s x y ts w h rfl hr hx (by omega) (by omega) (by omega) (by omega)
    · exact grows_none p _ c s x y _ ts w h h1 rfl hx)

end Go.Proofs.Ytffjbngelapmmaa
