/- For every start, grain, turns and two times OscMarks answers true: what a clock marks is a whole number of grains, not later than it tells, and never goes back. No condition. -/
import Derived.Test.YtffjbngelapmmaaFOscMarks
import Derived.Test.YtffjbngelapmmaaOsNew
namespace Go.Proofs.Ytffjbngelapmmaa
open Go.RowKit Go.Joins

theorem marks_many (p : Option Addr) (n c : Nat) (s g x y : Int) (w : World) (h : 64 < n) :
    Calls Try.prog 7 #[.int .i64 s, .int .i64 g, .slice p n c, .int .i64 x, .int .i64 y] w fun e w' => e = .returned (.bool true) ∧ Below w.heap.size w w' := by
  have HH := head_ret
  have d1 : decide ((64 : Int) < (n : Int)) = true := decide_eq_true (by omega)
  go_enter Try.func7, Try.ntmps7
  go_wp2_with (first
    | (go_at_call 8; (with_reducible refine (HH.go _).mono ?_); rintro e w1 ⟨rfl, hb⟩; have HB := Lib.hid hb; clear hb))
  go_ret
  exact ⟨rfl, HB.out⟩
theorem marks_none (p : Option Addr) (n c : Nat) (s g s' m x y z : Int) (ts : List (Int × Int)) (w : World) (h : TArg w (.slice p n c) ts) (hn : n ≤ 64) (hs : bits .and .i64 s 281474976710655 = s') (hm : bits .and .i64 g 511 = m) (m0 : 0 ≤ m ∧ m < 512)
    (hx : newE s' (1 + m) ts = z) (h0 : z ≠ 0) :
    Calls Try.prog 7 #[.int .i64 s, .int .i64 g, .slice p n c, .int .i64 x, .int .i64 y] w fun e w' => e = .returned (.bool true) ∧ Below w.heap.size w w' := by
  have HH := head_ret
  have d1 : decide ((64 : Int) < (n : Int)) = false := decide_eq_false (by omega)
  have d2 : (z != 0) = true := by rw [bne_iff_ne]; exact h0
  have HN := newWrong h hx h0
  have e1 : wrap64 (1 + m) = 1 + m := by unfold wrap64; omega
  clear h hx h0
  go_enter Try.func7, Try.ntmps7
  go_wp2_with (first
    | (go_at_call 8; (with_reducible refine (HH.go _).mono ?_); rintro e w1 ⟨rfl, hb⟩; have HB := Lib.hid hb; clear hb)
    | (go_at_call 9; (with_reducible refine (HN.out _ HB.out).mono ?_); rintro e w2 ⟨rfl, hb⟩; replace HB := Lib.hid (bTr HB.out hb); clear hb))
  go_ret
  exact ⟨rfl, HB.out⟩

set_option maxHeartbeats 1000000 in
theorem marks_some (p : Option Addr) (n c : Nat) (s g s' m x y x' y' : Int) (ts : List (Int × Int)) (w : World) (h : TArg w (.slice p n c) ts) (hn : n ≤ 64) (hs : bits .and .i64 s 281474976710655 = s') (hm : bits .and .i64 g 511 = m) (m0 : 0 ≤ m ∧ m < 512)
    (hxx : bits .and .i64 x 549755813887 = x') (hyy : bits .and .i64 y 4294967295 = y') (s0 : 0 ≤ s' ∧ s' < 281474976710656) (x0 : 0 ≤ x' ∧ x' < 549755813888) (y0 : 0 ≤ y' ∧ y' < 4294967296) (hx : newE s' (1 + m) ts = 0) :
    Calls Try.prog 7 #[.int .i64 s, .int .i64 g, .slice p n c, .int .i64 x, .int .i64 y] w fun e w' => e = .returned (.bool true) ∧ Below w.heap.size w w' := by
  have HH := head_ret
  have d1 : decide ((64 : Int) < (n : Int)) = false := decide_eq_false (by omega)
  have HN := newRight h hx
  obtain ⟨hg, g1, g2, hst⟩ := newE_zero hx
  have HG := Lib.hid hg
  have HS : Hid (Start s') := Lib.hid hst
  have HX : Hid ((0 : Int) ≤ x' ∧ x' ≤ 1099511627776) := Lib.hid ⟨by omega, by omega⟩
  have HXY : Hid ((0 : Int) ≤ x' + y' ∧ x' + y' ≤ 1099511627776) := Lib.hid ⟨by omega, by omega⟩
  have HGR : Hid (1 ≤ 1 + m ∧ 1 + m ≤ 1000) := Lib.hid ⟨g1, g2⟩
  have b1 := tell_bd (s := s') hg (x := x') (by omega)
  have b2 := tell_on (s := s') hg (a := x') (b := x' + y') (by omega) (by omega)
  obtain ⟨t, ht⟩ : ∃ t, tell s' ts x' = t := ⟨_, rfl⟩
  obtain ⟨a, ha⟩ : ∃ a, mark s' (1 + m) ts x' = a := ⟨_, rfl⟩
  obtain ⟨b, hb⟩ : ∃ b, mark s' (1 + m) ts (x' + y') = b := ⟨_, rfl⟩
  obtain ⟨u, hu⟩ : ∃ u, tell s' ts (x' + y') = u := ⟨_, rfl⟩
  obtain ⟨G, hG⟩ : ∃ G, (1 + m) * 65536 = G := ⟨_, rfl⟩
  have hG0 : 0 < G := by omega
  have ha' : a = t - t % G := by rw [← ha, ← ht, ← hG]; rfl
  have hb' : b = u - u % G := by rw [← hb, ← hu, ← hG]; rfl
  rw [ht] at b1
  rw [ht, hu] at b2
  have q1 := Int.emod_nonneg t (show G ≠ 0 by omega)
  have q2 := Int.emod_lt_of_pos t hG0
  have q3 := Int.emod_add_mul_ediv t G
  have q4 := Int.emod_add_mul_ediv u G
  have q5 : t / G ≤ u / G := Int.ediv_le_ediv hG0 (by omega)
  have q6 := Int.mul_le_mul_of_nonneg_left q5 (show 0 ≤ G by omega)
  have q7 := Int.emod_lt_of_pos u hG0
  have d2 : decide (a ≤ t) = true := decide_eq_true (by omega)
  have e1 : wrap64 (1 + m) = 1 + m := by unfold wrap64; omega
  have e2 : wrap64 ((1 + m) * 65536) = G := by rw [hG]; unfold wrap64; omega
  have e3 : wrap64 (t - a) = t % G := by unfold wrap64; omega
  have d3 : decide (t % G < G) = true := decide_eq_true q2
  have a0 : 0 ≤ a := by
    have := Int.mul_nonneg (show 0 ≤ G by omega) (Int.ediv_nonneg (show 0 ≤ t by omega) (show 0 ≤ G by omega))
    omega
  have e4 : a.tmod G = 0 := by
    rw [Int.tmod_eq_emod_of_nonneg a0, ha', show t - t % G = G * (t / G) by omega, Int.mul_emod_right]
  have d5 : decide (a ≤ b) = true := decide_eq_true (by omega)
  have e6 : wrap64 (x' + y') = x' + y' := by unfold wrap64; omega
  rw [← hG] at e3 d3 e4
  clear e2
  have HT := Lib.hid ht
  have HA := Lib.hid ha
  have HBB := Lib.hid hb
  clear h hx hg hst ht ha hb hu hG ha' hb' b1 b2 q1 q2 q3 q4 q5 q6 q7 a0 s0 x0 y0 g1 g2
  go_enter Try.func7, Try.ntmps7
  go_wp2_with (first
    | (go_at_call 8; (with_reducible refine (HH.go _).mono ?_); rintro e w1 ⟨rfl, hb⟩; have HB := Lib.hid hb; clear hb)
    | (go_at_call 9; (with_reducible refine (HN.out _ HB.out).mono ?_); rintro e w2 ⟨b1, rfl, hc, hb⟩; have HC := Lib.hid hc; replace HB := Lib.hid (bTr HB.out hb); clear hc hb HN)
    | (go_at_call 12; (with_reducible refine (at_ok HC.out HG.out HS.out x' HX.out.1 HX.out.2 t HT.out).mono ?_); rintro e w4 ⟨rfl, hb⟩; replace HC := Lib.hid (HC.out.below hb); replace HB := Lib.hid (bTr HB.out hb); clear hb)
    | (go_at_call 14; (with_reducible refine (mark_ok HC.out HG.out HS.out HGR.out.1 HGR.out.2 x' HX.out.1 HX.out.2 a HA.out).mono ?_); rintro e w5 ⟨rfl, hb⟩; replace HC := Lib.hid (HC.out.below hb); replace HB := Lib.hid (bTr HB.out hb); clear hb)
    | (go_at_call 14; (with_reducible refine (mark_ok HC.out HG.out HS.out HGR.out.1 HGR.out.2 (x' + y') HXY.out.1 HXY.out.2 b HBB.out).mono ?_); rintro e w6 ⟨rfl, hb⟩; replace HC := Lib.hid (HC.out.below hb); replace HB := Lib.hid (bTr HB.out hb); clear hb))
  go_ret
  exact ⟨by simp, HB.out⟩

theorem oscMarks_holds : Rows.OscMarksSaid := oscMarks_of (fun s g v ts x y w _ _ _ _ h _ _ _ _ => by
  obtain ⟨p, c, rfl⟩ := h.slice
  rcases Nat.lt_or_ge 64 ts.length with h1 | h1
  · exact marks_many p _ c s g x y w h1
  · by_cases hx : newE (s % 281474976710656) (1 + g % 512) ts = 0
    · exact marks_some p _ c s g _ _ x y _ _ ts w h h1 (low48 s) (low9 g) ⟨by omega, by omega⟩ (low39 x) (low32 y) ⟨by omega, by omega⟩ ⟨by omega, by omega⟩ ⟨by omega, by omega⟩ hx
    · exact marks_none p _ c s g _ _ x y _ ts w h h1 (low48 s) (low9 g) ⟨by omega, by omega⟩ rfl hx)

end Go.Proofs.Ytffjbngelapmmaa
