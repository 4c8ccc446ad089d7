/- The reference's rounding. -/
import Derived.Test.YtffjbngelapmmaaRef
namespace Go.Proofs.Ytffjbngelapmmaa
open Go.RowKit

def rdM (q l b : Nat) (minus : Bool) (round : Int) : Bool :=
  if l = 0 then false else if round = 0 then minus else if round = 1 then !minus else decide (b < l + l) || (decide (l + l = b) && decide (q % 2 = 1))
def RoundPost (w : World) (Q : Nat) (m : Bool) (e : Ending) (w' : World) : Prop := ∃ vq, e = .returned (.tuple #[vq, .bool m]) ∧ Num w' vq Q ∧ Below w.heap.size w w'

theorem round_end {w w' : World} {b o c Q n : Nat} {qs : List Nat} {m x : Bool} (hn : n = qs.length) (hc : qs.length ≤ c) (hr : Rd w' b o qs) (hd : Dg.IsD qs Q) (hb : Below w.heap.size w w') (hx : x = (m && decide (0 < Q))) :
    RoundPost w Q (m && decide (0 < Q)) (.returned (.tuple #[.slice (some ⟨b, o, none⟩) n c, .bool x])) w' :=
  ⟨_, by rw [hx], ⟨b, o, c, qs, by rw [hn], hc, hr, hd⟩, hb⟩
theorem IsD_zero {qs : List Nat} {Q : Nat} (hd : Dg.IsD qs Q) : qs.length = 0 ↔ Q = 0 := hd.zero_iff
theorem pos_len {qs : List Nat} {Q : Nat} (hd : Dg.IsD qs Q) : decide (0 < qs.length) = decide (0 < Q) := by
  have := hd.zero_iff
  rw [decide_eq_decide]; omega
theorem odd_of {qs : List Nat} {Q : Nat} (hd : Dg.IsD qs Q) : qs.getD 0 0 % 2 = Q % 2 := by
  rw [Dg.digit_eq hd.1 0, hd.2.1]; simp
theorem num_zero {ds : List Nat} (hd : Dg.IsD ds 0) : ds.length = 0 := by rw [hd.zero]; rfl

set_option maxHeartbeats 2000000 in
theorem round_none_false (va vb : Value) (a b L : Nat) (w : World) (ha : Num w va a) (hb : Num w vb b) (hb0 : 0 < b) (la : a < 65536 ^ L) (lb : b < 65536 ^ L) (hL : L ≤ 40000) (round : Int) (h : a % b = 0) :
    Calls Try.prog 46 #[va, vb, .bool false, .int .i64 round] w (RoundPost w (a / b) (false && decide (0 < a / b))) := by
  have HA := Lib.hid ha
  have HB := Lib.hid hb
  clear ha hb
  go_enter Try.func46, Try.ntmps46
  go_wp2_with (go_at_call 54; (with_reducible refine (div_any HA.out HB.out hb0 la lb (by omega)).mono ?_); rintro e w2 ⟨vq, vr, rfl, hq, hr, hb2⟩; obtain ⟨bq, oq, cq, qs, rfl, hcq, hrq, hdq⟩ := hq; obtain ⟨br, or, cr, rs, rfl, hcr, hrr, hdr⟩ := hr; obtain ⟨nr, hnr⟩ : ∃ nr, nr = rs.length := ⟨_, rfl⟩; obtain ⟨nq, hnq⟩ : ∃ nq, nq = qs.length := ⟨_, rfl⟩; rw [← hnr, ← hnq]; have HQ := Lib.hid hdq; have HR := Lib.hid hdr; have HNR := Lib.hid hnr; have HNQ := Lib.hid hnq; have HRQ := Lib.hid hrq; have HRR := Lib.hid hrr; have HCQ := Lib.hid hcq; have HCR := Lib.hid hcr; have HB2 := Lib.hid hb2; have hz : nr = 0 := (by rw [hnr]; rw [h] at hdr; exact num_zero hdr); subst hz; clear hdq hdr hnr hnq hrq hrr hcq hcr hb2)
  all_goals skip
  go_ret2
  exact round_end HNQ.out HCQ.out (HRQ.out) HQ.out HB2.out (by simp)

set_option maxHeartbeats 2000000 in
theorem round_none_true (va vb : Value) (a b L : Nat) (w : World) (ha : Num w va a) (hb : Num w vb b) (hb0 : 0 < b) (la : a < 65536 ^ L) (lb : b < 65536 ^ L) (hL : L ≤ 40000) (round : Int) (h : a % b = 0) :
    Calls Try.prog 46 #[va, vb, .bool true, .int .i64 round] w (RoundPost w (a / b) (true && decide (0 < a / b))) := by
  have HA := Lib.hid ha
  have HB := Lib.hid hb
  clear ha hb
  go_enter Try.func46, Try.ntmps46
  go_wp2_with (go_at_call 54; (with_reducible refine (div_any HA.out HB.out hb0 la lb (by omega)).mono ?_); rintro e w2 ⟨vq, vr, rfl, hq, hr, hb2⟩; obtain ⟨bq, oq, cq, qs, rfl, hcq, hrq, hdq⟩ := hq; obtain ⟨br, or, cr, rs, rfl, hcr, hrr, hdr⟩ := hr; obtain ⟨nr, hnr⟩ : ∃ nr, nr = rs.length := ⟨_, rfl⟩; obtain ⟨nq, hnq⟩ : ∃ nq, nq = qs.length := ⟨_, rfl⟩; rw [← hnr, ← hnq]; have HQ := Lib.hid hdq; have HR := Lib.hid hdr; have HNR := Lib.hid hnr; have HNQ := Lib.hid hnq; have HRQ := Lib.hid hrq; have HRR := Lib.hid hrr; have HCQ := Lib.hid hcq; have HCR := Lib.hid hcr; have HB2 := Lib.hid hb2; have hz : nr = 0 := (by rw [hnr]; rw [h] at hdr; exact num_zero hdr); subst hz; clear hdq hdr hnr hnq hrq hrr hcq hcr hb2)
  all_goals skip
  go_ret2
  exact round_end HNQ.out HCQ.out (HRQ.out) HQ.out HB2.out (by rw [HNQ.out, pos_len HQ.out]; simp)

set_option maxHeartbeats 2000000 in
theorem round_down_false (va vb : Value) (a b L : Nat) (w : World) (ha : Num w va a) (hb : Num w vb b) (hb0 : 0 < b) (la : a < 65536 ^ L) (lb : b < 65536 ^ L) (hL : L ≤ 40000) (h : a % b ≠ 0) :
    Calls Try.prog 46 #[va, vb, .bool false, .int .i64 0] w (RoundPost w (a / b) (false && decide (0 < a / b))) := by
  have HA := Lib.hid ha
  have HB := Lib.hid hb
  clear ha hb
  go_enter Try.func46, Try.ntmps46
  go_wp2_with (go_at_call 54; (with_reducible refine (div_any HA.out HB.out hb0 la lb (by omega)).mono ?_); rintro e w2 ⟨vq, vr, rfl, hq, hr, hb2⟩; obtain ⟨bq, oq, cq, qs, rfl, hcq, hrq, hdq⟩ := hq; obtain ⟨br, or, cr, rs, rfl, hcr, hrr, hdr⟩ := hr; obtain ⟨nr, hnr⟩ : ∃ nr, nr = rs.length := ⟨_, rfl⟩; obtain ⟨nq, hnq⟩ : ∃ nq, nq = qs.length := ⟨_, rfl⟩; rw [← hnr, ← hnq]; have HQ := Lib.hid hdq; have HR := Lib.hid hdr; have HNR := Lib.hid hnr; have HNQ := Lib.hid hnq; have HRQ := Lib.hid hrq; have HRR := Lib.hid hrr; have HCQ := Lib.hid hcq; have HCR := Lib.hid hcr; have HB2 := Lib.hid hb2; have hz : ((nr : Int) == 0) = false := (by rw [beq_eq_false_iff_ne]; intro h0; exact h ((IsD_zero hdr).1 (by omega))); clear hdq hdr hnr hnq hrq hrr hcq hcr hb2)
  go_ret2
  exact round_end HNQ.out HCQ.out (HRQ.out) HQ.out HB2.out (by simp)

set_option maxHeartbeats 2000000 in
theorem round_up_false (va vb : Value) (a b L : Nat) (w : World) (ha : Num w va a) (hb : Num w vb b) (hb0 : 0 < b) (la : a < 65536 ^ L) (lb : b < 65536 ^ L) (hL : L ≤ 40000) (h : a % b ≠ 0) :
    Calls Try.prog 46 #[va, vb, .bool false, .int .i64 1] w (RoundPost w (a / b + 1) (false && decide (0 < a / b + 1))) := by
  have HA := Lib.hid ha
  have HB := Lib.hid hb
  clear ha hb
  go_enter Try.func46, Try.ntmps46
  go_wp2_with (go_at_call 54; (with_reducible refine (div_any HA.out HB.out hb0 la lb (by omega)).mono ?_); rintro e w2 ⟨vq, vr, rfl, hq, hr, hb2⟩; obtain ⟨bq, oq, cq, qs, rfl, hcq, hrq, hdq⟩ := hq; obtain ⟨br, or, cr, rs, rfl, hcr, hrr, hdr⟩ := hr; obtain ⟨nr, hnr⟩ : ∃ nr, nr = rs.length := ⟨_, rfl⟩; obtain ⟨nq, hnq⟩ : ∃ nq, nq = qs.length := ⟨_, rfl⟩; rw [← hnr, ← hnq]; have HQ := Lib.hid hdq; have HR := Lib.hid hdr; have HNR := Lib.hid hnr; have HNQ := Lib.hid hnq; have HRQ := Lib.hid hrq; have HRR := Lib.hid hrr; have HCQ := Lib.hid hcq; have HCR := Lib.hid hcr; have HB2 := Lib.hid hb2; have hz : ((nr : Int) == 0) = false := (by rw [beq_eq_false_iff_ne]; intro h0; exact h ((IsD_zero hdr).1 (by omega))); clear hdq hdr hnr hnq hrq hrr hcq hcr hb2)
  have hql : a / b < 65536 ^ L := Nat.lt_of_le_of_lt (Nat.div_le_self a b) la
  have hq1 : a / b < 65536 ^ (L + 1) := by rw [Dg.pow_succ']; omega
  have hN : Num w2 (.slice (some ⟨bq, oq, none⟩) nq cq) (a / b) := by rw [HNQ.out]; exact ⟨bq, oq, cq, qs, rfl, HCQ.out, HRQ.out, HQ.out⟩
  have HN := Lib.hid hN
  clear hN
  go_wp2_with (go_at_call 56; (with_reducible refine (add_any (HN.out.below (below_alloc _ _)) (num_one _) (L := L + 1) hq1 (one_lt _) (by omega)).mono ?_); rintro e w3 ⟨v3, rfl, ⟨b3, o3, c3, ds3, rfl, hc3, hr3, hd3⟩, hb3, hf3⟩)
  go_ret2
  have hz3 : w.heap.size ≤ w2.heap.size := HB2.out.size
  exact round_end rfl hc3 hr3 hd3 ((HB2.out.trans ((below_alloc _ _).mono hz3)).trans (hb3.mono (by simp; omega))) (by simp)

set_option maxHeartbeats 2000000 in
theorem round_down_true (va vb : Value) (a b L : Nat) (w : World) (ha : Num w va a) (hb : Num w vb b) (hb0 : 0 < b) (la : a < 65536 ^ L) (lb : b < 65536 ^ L) (hL : L ≤ 40000) (h : a % b ≠ 0) :
    Calls Try.prog 46 #[va, vb, .bool true, .int .i64 0] w (RoundPost w (a / b + 1) (true && decide (0 < a / b + 1))) := by
  have HA := Lib.hid ha
  have HB := Lib.hid hb
  clear ha hb
  go_enter Try.func46, Try.ntmps46
  go_wp2_with (go_at_call 54; (with_reducible refine (div_any HA.out HB.out hb0 la lb (by omega)).mono ?_); rintro e w2 ⟨vq, vr, rfl, hq, hr, hb2⟩; obtain ⟨bq, oq, cq, qs, rfl, hcq, hrq, hdq⟩ := hq; obtain ⟨br, or, cr, rs, rfl, hcr, hrr, hdr⟩ := hr; obtain ⟨nr, hnr⟩ : ∃ nr, nr = rs.length := ⟨_, rfl⟩; obtain ⟨nq, hnq⟩ : ∃ nq, nq = qs.length := ⟨_, rfl⟩; rw [← hnr, ← hnq]; have HQ := Lib.hid hdq; have HR := Lib.hid hdr; have HNR := Lib.hid hnr; have HNQ := Lib.hid hnq; have HRQ := Lib.hid hrq; have HRR := Lib.hid hrr; have HCQ := Lib.hid hcq; have HCR := Lib.hid hcr; have HB2 := Lib.hid hb2; have hz : ((nr : Int) == 0) = false := (by rw [beq_eq_false_iff_ne]; intro h0; exact h ((IsD_zero hdr).1 (by omega))); clear hdq hdr hnr hnq hrq hrr hcq hcr hb2)
  have hql : a / b < 65536 ^ L := Nat.lt_of_le_of_lt (Nat.div_le_self a b) la
  have hq1 : a / b < 65536 ^ (L + 1) := by rw [Dg.pow_succ']; omega
  have hN : Num w2 (.slice (some ⟨bq, oq, none⟩) nq cq) (a / b) := by rw [HNQ.out]; exact ⟨bq, oq, cq, qs, rfl, HCQ.out, HRQ.out, HQ.out⟩
  have HN := Lib.hid hN
  clear hN
  go_wp2_with (go_at_call 56; (with_reducible refine (add_any (HN.out.below (below_alloc _ _)) (num_one _) (L := L + 1) hq1 (one_lt _) (by omega)).mono ?_); rintro e w3 ⟨v3, rfl, ⟨b3, o3, c3, ds3, rfl, hc3, hr3, hd3⟩, hb3, hf3⟩)
  go_ret2
  have hz3 : w.heap.size ≤ w2.heap.size := HB2.out.size
  exact round_end rfl hc3 hr3 hd3 ((HB2.out.trans ((below_alloc _ _).mono hz3)).trans (hb3.mono (by simp; omega))) (by rw [pos_len hd3]; simp)

set_option maxHeartbeats 2000000 in
theorem round_up_true (va vb : Value) (a b L : Nat) (w : World) (ha : Num w va a) (hb : Num w vb b) (hb0 : 0 < b) (la : a < 65536 ^ L) (lb : b < 65536 ^ L) (hL : L ≤ 40000) (h : a % b ≠ 0) :
    Calls Try.prog 46 #[va, vb, .bool true, .int .i64 1] w (RoundPost w (a / b) (true && decide (0 < a / b))) := by
  have HA := Lib.hid ha
  have HB := Lib.hid hb
  clear ha hb
  go_enter Try.func46, Try.ntmps46
  go_wp2_with (go_at_call 54; (with_reducible refine (div_any HA.out HB.out hb0 la lb (by omega)).mono ?_); rintro e w2 ⟨vq, vr, rfl, hq, hr, hb2⟩; obtain ⟨bq, oq, cq, qs, rfl, hcq, hrq, hdq⟩ := hq; obtain ⟨br, or, cr, rs, rfl, hcr, hrr, hdr⟩ := hr; obtain ⟨nr, hnr⟩ : ∃ nr, nr = rs.length := ⟨_, rfl⟩; obtain ⟨nq, hnq⟩ : ∃ nq, nq = qs.length := ⟨_, rfl⟩; rw [← hnr, ← hnq]; have HQ := Lib.hid hdq; have HR := Lib.hid hdr; have HNR := Lib.hid hnr; have HNQ := Lib.hid hnq; have HRQ := Lib.hid hrq; have HRR := Lib.hid hrr; have HCQ := Lib.hid hcq; have HCR := Lib.hid hcr; have HB2 := Lib.hid hb2; have hz : ((nr : Int) == 0) = false := (by rw [beq_eq_false_iff_ne]; intro h0; exact h ((IsD_zero hdr).1 (by omega))); clear hdq hdr hnr hnq hrq hrr hcq hcr hb2)
  go_ret2
  exact round_end HNQ.out HCQ.out (HRQ.out) HQ.out HB2.out (by rw [HNQ.out, pos_len HQ.out]; simp)

set_option maxHeartbeats 2000000 in
theorem near_gt0_false (va vb : Value) (a b L : Nat) (w : World) (ha : Num w va a) (hb : Num w vb b) (hb0 : 0 < b) (la : a < 65536 ^ L) (lb : b < 65536 ^ L) (hL : L ≤ 40000) (h : a % b ≠ 0) (hc : b < a % b + a % b) (hq0 : a / b = 0) :
    Calls Try.prog 46 #[va, vb, .bool false, .int .i64 2] w (RoundPost w (a / b + 1) (false && decide (0 < a / b + 1))) := by
  have HA := Lib.hid ha
  have HB := Lib.hid hb
  clear ha hb
  go_enter Try.func46, Try.ntmps46
  go_wp2_with (go_at_call 54; (with_reducible refine (div_any HA.out HB.out hb0 la lb (by omega)).mono ?_); rintro e w2 ⟨vq, vr, rfl, hq, hr, hb2⟩; obtain ⟨bq, oq, cq, qs, rfl, hcq, hrq, hdq⟩ := hq; obtain ⟨br, or, cr, rs, rfl, hcr, hrr, hdr⟩ := hr; obtain ⟨nr, hnr⟩ : ∃ nr, nr = rs.length := ⟨_, rfl⟩; obtain ⟨nq, hnq⟩ : ∃ nq, nq = qs.length := ⟨_, rfl⟩; rw [← hnr, ← hnq]; have HQ := Lib.hid hdq; have HR := Lib.hid hdr; have HNR := Lib.hid hnr; have HNQ := Lib.hid hnq; have HRQ := Lib.hid hrq; have HRR := Lib.hid hrr; have HCQ := Lib.hid hcq; have HCR := Lib.hid hcr; have HB2 := Lib.hid hb2; have hz : ((nr : Int) == 0) = false := (by rw [beq_eq_false_iff_ne]; intro h0; exact h ((IsD_zero hdr).1 (by omega))); have hqp : (nq : Int) ≤ 0 := (by have := IsD_zero hdq; omega); clear hdq hdr hnr hnq hrq hrr hcq hcr hb2)
  have hlb : a % b + a % b < 65536 ^ (L + 1) := by have := Nat.mod_lt a hb0; rw [Dg.pow_succ']; omega
  have HRN : Hid (Num w2 (.slice (some ⟨br, or, none⟩) nr cr) (a % b)) := Lib.hid (by rw [HNR.out]; exact ⟨br, or, cr, rs, rfl, HCR.out, HRR.out, HR.out⟩)
  go_wp2_with (go_at_call 56; (with_reducible refine (add_any HRN.out HRN.out (L := L) (Nat.lt_trans (Nat.mod_lt a hb0) lb) (Nat.lt_trans (Nat.mod_lt a hb0) lb) (by omega)).mono ?_); rintro e w4 ⟨v4, rfl, hn4, hb4, hf4⟩)
  have HN4 := Lib.hid hn4
  have HB4 := Lib.hid (HB2.out.trans (hb4.mono HB2.out.size))
  have HB24 := Lib.hid hb4
  clear hn4 hb4 hf4
  go_wp2_with (go_at_call 55; (with_reducible refine (cmp_at HN4.out (HB.out.below HB4.out) (L := L + 1) hlb (by omega) (cmp_pos hc)).mono ?_); rintro e w5 ⟨rfl, q5, rfl⟩)
  have hql : a / b < 65536 ^ L := Nat.lt_of_le_of_lt (Nat.div_le_self a b) la
  have hq1 : a / b < 65536 ^ (L + 1) := by rw [Dg.pow_succ']; omega
  have HN : Hid (Num w4 (.slice (some ⟨bq, oq, none⟩) nq cq) (a / b)) := Lib.hid (Num.below (by rw [HNQ.out]; exact ⟨bq, oq, cq, qs, rfl, HCQ.out, HRQ.out, HQ.out⟩) HB24.out)
  have HO1 : Hid (Num ((w4.drewN q5).alloc (.cells #[.int .i64 1] 3)) (.slice (some ⟨w4.heap.size, 0, none⟩) 1 1) 1) := Lib.hid (num_one (w4.drewN q5))
  go_wp2_with (go_at_call 56; (with_reducible refine (add_any (Num.below (HN.out.drewN q5) (below_alloc _ _)) HO1.out (L := L + 1) hq1 (one_lt _) (by omega)).mono ?_); rintro e w3 ⟨v3, rfl, ⟨b3, o3, c3, ds3, rfl, hc3, hr3, hd3⟩, hb3, hf3⟩)
  go_ret2
  have hz3 : w.heap.size ≤ w4.heap.size := HB4.out.size
  exact round_end rfl hc3 hr3 hd3 (((bDr' HB4.out q5).trans ((below_alloc (w4.drewN q5) _).mono hz3)).trans (hb3.mono (by simp; omega))) (by simp)

set_option maxHeartbeats 2000000 in
theorem near_lt0_false (va vb : Value) (a b L : Nat) (w : World) (ha : Num w va a) (hb : Num w vb b) (hb0 : 0 < b) (la : a < 65536 ^ L) (lb : b < 65536 ^ L) (hL : L ≤ 40000) (h : a % b ≠ 0) (hc : a % b + a % b < b) (hq0 : a / b = 0) :
    Calls Try.prog 46 #[va, vb, .bool false, .int .i64 2] w (RoundPost w (a / b) (false && decide (0 < a / b))) := by
  have HA := Lib.hid ha
  have HB := Lib.hid hb
  clear ha hb
  go_enter Try.func46, Try.ntmps46
  go_wp2_with (go_at_call 54; (with_reducible refine (div_any HA.out HB.out hb0 la lb (by omega)).mono ?_); rintro e w2 ⟨vq, vr, rfl, hq, hr, hb2⟩; obtain ⟨bq, oq, cq, qs, rfl, hcq, hrq, hdq⟩ := hq; obtain ⟨br, or, cr, rs, rfl, hcr, hrr, hdr⟩ := hr; obtain ⟨nr, hnr⟩ : ∃ nr, nr = rs.length := ⟨_, rfl⟩; obtain ⟨nq, hnq⟩ : ∃ nq, nq = qs.length := ⟨_, rfl⟩; rw [← hnr, ← hnq]; have HQ := Lib.hid hdq; have HR := Lib.hid hdr; have HNR := Lib.hid hnr; have HNQ := Lib.hid hnq; have HRQ := Lib.hid hrq; have HRR := Lib.hid hrr; have HCQ := Lib.hid hcq; have HCR := Lib.hid hcr; have HB2 := Lib.hid hb2; have hz : ((nr : Int) == 0) = false := (by rw [beq_eq_false_iff_ne]; intro h0; exact h ((IsD_zero hdr).1 (by omega))); have hqp : (nq : Int) ≤ 0 := (by have := IsD_zero hdq; omega); clear hdq hdr hnr hnq hrq hrr hcq hcr hb2)
  have hlb : a % b + a % b < 65536 ^ (L + 1) := by have := Nat.mod_lt a hb0; rw [Dg.pow_succ']; omega
  have HRN : Hid (Num w2 (.slice (some ⟨br, or, none⟩) nr cr) (a % b)) := Lib.hid (by rw [HNR.out]; exact ⟨br, or, cr, rs, rfl, HCR.out, HRR.out, HR.out⟩)
  go_wp2_with (go_at_call 56; (with_reducible refine (add_any HRN.out HRN.out (L := L) (Nat.lt_trans (Nat.mod_lt a hb0) lb) (Nat.lt_trans (Nat.mod_lt a hb0) lb) (by omega)).mono ?_); rintro e w4 ⟨v4, rfl, hn4, hb4, hf4⟩)
  have HN4 := Lib.hid hn4
  have HB4 := Lib.hid (HB2.out.trans (hb4.mono HB2.out.size))
  have HB24 := Lib.hid hb4
  clear hn4 hb4 hf4
  go_wp2_with (go_at_call 55; (with_reducible refine (cmp_at HN4.out (HB.out.below HB4.out) (L := L + 1) hlb (by omega) (cmp_lt hc)).mono ?_); rintro e w5 ⟨rfl, q5, rfl⟩)
  go_ret2
  exact round_end HNQ.out HCQ.out (Rd.drewN (HRQ.out.below HB24.out) q5) HQ.out (bDr' HB4.out q5) (by simp)

set_option maxHeartbeats 2000000 in
theorem near_gt1_false (va vb : Value) (a b L : Nat) (w : World) (ha : Num w va a) (hb : Num w vb b) (hb0 : 0 < b) (la : a < 65536 ^ L) (lb : b < 65536 ^ L) (hL : L ≤ 40000) (h : a % b ≠ 0) (hc : b < a % b + a % b) (hq0 : 0 < a / b) :
    Calls Try.prog 46 #[va, vb, .bool false, .int .i64 2] w (RoundPost w (a / b + 1) (false && decide (0 < a / b + 1))) := by
  have HA := Lib.hid ha
  have HB := Lib.hid hb
  clear ha hb
  go_enter Try.func46, Try.ntmps46
  go_wp2_with (go_at_call 54; (with_reducible refine (div_any HA.out HB.out hb0 la lb (by omega)).mono ?_); rintro e w2 ⟨vq, vr, rfl, hq, hr, hb2⟩; obtain ⟨bq, oq, cq, qs, rfl, hcq, hrq, hdq⟩ := hq; obtain ⟨br, or, cr, rs, rfl, hcr, hrr, hdr⟩ := hr; obtain ⟨nr, hnr⟩ : ∃ nr, nr = rs.length := ⟨_, rfl⟩; obtain ⟨nq, hnq⟩ : ∃ nq, nq = qs.length := ⟨_, rfl⟩; rw [← hnr, ← hnq]; have HQ := Lib.hid hdq; have HR := Lib.hid hdr; have HNR := Lib.hid hnr; have HNQ := Lib.hid hnq; have HRQ := Lib.hid hrq; have HRR := Lib.hid hrr; have HCQ := Lib.hid hcq; have HCR := Lib.hid hcr; have HB2 := Lib.hid hb2; have hz : ((nr : Int) == 0) = false := (by rw [beq_eq_false_iff_ne]; intro h0; exact h ((IsD_zero hdr).1 (by omega))); have hqp : (0 : Int) < (nq : Int) := (by have := IsD_zero hdq; omega); clear hdq hdr hnr hnq hrq hrr hcq hcr hb2)
  have hlb : a % b + a % b < 65536 ^ (L + 1) := by have := Nat.mod_lt a hb0; rw [Dg.pow_succ']; omega
  have HRN : Hid (Num w2 (.slice (some ⟨br, or, none⟩) nr cr) (a % b)) := Lib.hid (by rw [HNR.out]; exact ⟨br, or, cr, rs, rfl, HCR.out, HRR.out, HR.out⟩)
  go_wp2_with (go_at_call 56; (with_reducible refine (add_any HRN.out HRN.out (L := L) (Nat.lt_trans (Nat.mod_lt a hb0) lb) (Nat.lt_trans (Nat.mod_lt a hb0) lb) (by omega)).mono ?_); rintro e w4 ⟨v4, rfl, hn4, hb4, hf4⟩)
  have HN4 := Lib.hid hn4
  have HB4 := Lib.hid (HB2.out.trans (hb4.mono HB2.out.size))
  have HB24 := Lib.hid hb4
  have cz := ((HRQ.out.below HB24.out) (by rw [← HNQ.out]; omega)).2 0 (by rw [← HNQ.out]; omega)
  rw [Nat.add_zero] at cz
  obtain ⟨z, hze⟩ : ∃ z, z = qs.getD 0 0 := ⟨_, rfl⟩
  have hzo := odd_of HQ.out
  rw [← hze] at cz hzo
  clear hze hzo
  clear hn4 hb4 hf4
  go_wp2_with (go_at_call 55; (with_reducible refine (cmp_at HN4.out (HB.out.below HB4.out) (L := L + 1) hlb (by omega) (cmp_pos hc)).mono ?_); rintro e w5 ⟨rfl, q5, rfl⟩)
  have hql : a / b < 65536 ^ L := Nat.lt_of_le_of_lt (Nat.div_le_self a b) la
  have hq1 : a / b < 65536 ^ (L + 1) := by rw [Dg.pow_succ']; omega
  have HN : Hid (Num w4 (.slice (some ⟨bq, oq, none⟩) nq cq) (a / b)) := Lib.hid (Num.below (by rw [HNQ.out]; exact ⟨bq, oq, cq, qs, rfl, HCQ.out, HRQ.out, HQ.out⟩) HB24.out)
  have HO1 : Hid (Num ((w4.drewN q5).alloc (.cells #[.int .i64 1] 3)) (.slice (some ⟨w4.heap.size, 0, none⟩) 1 1) 1) := Lib.hid (num_one (w4.drewN q5))
  go_wp2_with (go_at_call 56; (with_reducible refine (add_any (Num.below (HN.out.drewN q5) (below_alloc _ _)) HO1.out (L := L + 1) hq1 (one_lt _) (by omega)).mono ?_); rintro e w3 ⟨v3, rfl, ⟨b3, o3, c3, ds3, rfl, hc3, hr3, hd3⟩, hb3, hf3⟩)
  go_ret2
  have hz3 : w.heap.size ≤ w4.heap.size := HB4.out.size
  exact round_end rfl hc3 hr3 hd3 (((bDr' HB4.out q5).trans ((below_alloc (w4.drewN q5) _).mono hz3)).trans (hb3.mono (by simp; omega))) (by simp)

set_option maxHeartbeats 2000000 in
theorem near_lt1_false (va vb : Value) (a b L : Nat) (w : World) (ha : Num w va a) (hb : Num w vb b) (hb0 : 0 < b) (la : a < 65536 ^ L) (lb : b < 65536 ^ L) (hL : L ≤ 40000) (h : a % b ≠ 0) (hc : a % b + a % b < b) (hq0 : 0 < a / b) :
    Calls Try.prog 46 #[va, vb, .bool false, .int .i64 2] w (RoundPost w (a / b) (false && decide (0 < a / b))) := by
  have HA := Lib.hid ha
  have HB := Lib.hid hb
  clear ha hb
  go_enter Try.func46, Try.ntmps46
  go_wp2_with (go_at_call 54; (with_reducible refine (div_any HA.out HB.out hb0 la lb (by omega)).mono ?_); rintro e w2 ⟨vq, vr, rfl, hq, hr, hb2⟩; obtain ⟨bq, oq, cq, qs, rfl, hcq, hrq, hdq⟩ := hq; obtain ⟨br, or, cr, rs, rfl, hcr, hrr, hdr⟩ := hr; obtain ⟨nr, hnr⟩ : ∃ nr, nr = rs.length := ⟨_, rfl⟩; obtain ⟨nq, hnq⟩ : ∃ nq, nq = qs.length := ⟨_, rfl⟩; rw [← hnr, ← hnq]; have HQ := Lib.hid hdq; have HR := Lib.hid hdr; have HNR := Lib.hid hnr; have HNQ := Lib.hid hnq; have HRQ := Lib.hid hrq; have HRR := Lib.hid hrr; have HCQ := Lib.hid hcq; have HCR := Lib.hid hcr; have HB2 := Lib.hid hb2; have hz : ((nr : Int) == 0) = false := (by rw [beq_eq_false_iff_ne]; intro h0; exact h ((IsD_zero hdr).1 (by omega))); have hqp : (0 : Int) < (nq : Int) := (by have := IsD_zero hdq; omega); clear hdq hdr hnr hnq hrq hrr hcq hcr hb2)
  have hlb : a % b + a % b < 65536 ^ (L + 1) := by have := Nat.mod_lt a hb0; rw [Dg.pow_succ']; omega
  have HRN : Hid (Num w2 (.slice (some ⟨br, or, none⟩) nr cr) (a % b)) := Lib.hid (by rw [HNR.out]; exact ⟨br, or, cr, rs, rfl, HCR.out, HRR.out, HR.out⟩)
  go_wp2_with (go_at_call 56; (with_reducible refine (add_any HRN.out HRN.out (L := L) (Nat.lt_trans (Nat.mod_lt a hb0) lb) (Nat.lt_trans (Nat.mod_lt a hb0) lb) (by omega)).mono ?_); rintro e w4 ⟨v4, rfl, hn4, hb4, hf4⟩)
  have HN4 := Lib.hid hn4
  have HB4 := Lib.hid (HB2.out.trans (hb4.mono HB2.out.size))
  have HB24 := Lib.hid hb4
  have cz := ((HRQ.out.below HB24.out) (by rw [← HNQ.out]; omega)).2 0 (by rw [← HNQ.out]; omega)
  rw [Nat.add_zero] at cz
  obtain ⟨z, hze⟩ : ∃ z, z = qs.getD 0 0 := ⟨_, rfl⟩
  have hzo := odd_of HQ.out
  rw [← hze] at cz hzo
  clear hze hzo
  clear hn4 hb4 hf4
  go_wp2_with (go_at_call 55; (with_reducible refine (cmp_at HN4.out (HB.out.below HB4.out) (L := L + 1) hlb (by omega) (cmp_lt hc)).mono ?_); rintro e w5 ⟨rfl, q5, rfl⟩)
  go_ret2
  exact round_end HNQ.out HCQ.out (Rd.drewN (HRQ.out.below HB24.out) q5) HQ.out (bDr' HB4.out q5) (by simp)

set_option maxHeartbeats 2000000 in
theorem near_eq0_false (va vb : Value) (a b L : Nat) (w : World) (ha : Num w va a) (hb : Num w vb b) (hb0 : 0 < b) (la : a < 65536 ^ L) (lb : b < 65536 ^ L) (hL : L ≤ 40000) (h : a % b ≠ 0) (hc : a % b + a % b = b) (hq0 : a / b = 0) :
    Calls Try.prog 46 #[va, vb, .bool false, .int .i64 2] w (RoundPost w (a / b) (false && decide (0 < a / b))) := by
  have HA := Lib.hid ha
  have HB := Lib.hid hb
  clear ha hb
  go_enter Try.func46, Try.ntmps46
  go_wp2_with (go_at_call 54; (with_reducible refine (div_any HA.out HB.out hb0 la lb (by omega)).mono ?_); rintro e w2 ⟨vq, vr, rfl, hq, hr, hb2⟩; obtain ⟨bq, oq, cq, qs, rfl, hcq, hrq, hdq⟩ := hq; obtain ⟨br, or, cr, rs, rfl, hcr, hrr, hdr⟩ := hr; obtain ⟨nr, hnr⟩ : ∃ nr, nr = rs.length := ⟨_, rfl⟩; obtain ⟨nq, hnq⟩ : ∃ nq, nq = qs.length := ⟨_, rfl⟩; rw [← hnr, ← hnq]; have HQ := Lib.hid hdq; have HR := Lib.hid hdr; have HNR := Lib.hid hnr; have HNQ := Lib.hid hnq; have HRQ := Lib.hid hrq; have HRR := Lib.hid hrr; have HCQ := Lib.hid hcq; have HCR := Lib.hid hcr; have HB2 := Lib.hid hb2; have hz : ((nr : Int) == 0) = false := (by rw [beq_eq_false_iff_ne]; intro h0; exact h ((IsD_zero hdr).1 (by omega))); have hqp : (nq : Int) ≤ 0 := (by have := IsD_zero hdq; omega); clear hdq hdr hnr hnq hrq hrr hcq hcr hb2)
  have hlb : a % b + a % b < 65536 ^ (L + 1) := by have := Nat.mod_lt a hb0; rw [Dg.pow_succ']; omega
  have HRN : Hid (Num w2 (.slice (some ⟨br, or, none⟩) nr cr) (a % b)) := Lib.hid (by rw [HNR.out]; exact ⟨br, or, cr, rs, rfl, HCR.out, HRR.out, HR.out⟩)
  go_wp2_with (go_at_call 56; (with_reducible refine (add_any HRN.out HRN.out (L := L) (Nat.lt_trans (Nat.mod_lt a hb0) lb) (Nat.lt_trans (Nat.mod_lt a hb0) lb) (by omega)).mono ?_); rintro e w4 ⟨v4, rfl, hn4, hb4, hf4⟩)
  have HN4 := Lib.hid hn4
  have HB4 := Lib.hid (HB2.out.trans (hb4.mono HB2.out.size))
  have HB24 := Lib.hid hb4
  clear hn4 hb4 hf4
  go_wp2_with (go_at_call 55; (with_reducible refine (cmp_at HN4.out (HB.out.below HB4.out) (L := L + 1) hlb (by omega) (Dg.cmpN_eq' hc)).mono ?_); rintro e w5 ⟨rfl, q5, rfl⟩)
  go_ret2
  exact round_end HNQ.out HCQ.out (Rd.drewN (HRQ.out.below HB24.out) q5) HQ.out (bDr' HB4.out q5) (by simp)

set_option maxHeartbeats 2000000 in
theorem near_odd_false (va vb : Value) (a b L : Nat) (w : World) (ha : Num w va a) (hb : Num w vb b) (hb0 : 0 < b) (la : a < 65536 ^ L) (lb : b < 65536 ^ L) (hL : L ≤ 40000) (h : a % b ≠ 0) (hc : a % b + a % b = b) (hq0 : 0 < a / b) (ho : a / b % 2 = 1) :
    Calls Try.prog 46 #[va, vb, .bool false, .int .i64 2] w (RoundPost w (a / b + 1) (false && decide (0 < a / b + 1))) := by
  have HA := Lib.hid ha
  have HB := Lib.hid hb
  clear ha hb
  go_enter Try.func46, Try.ntmps46
  go_wp2_with (go_at_call 54; (with_reducible refine (div_any HA.out HB.out hb0 la lb (by omega)).mono ?_); rintro e w2 ⟨vq, vr, rfl, hq, hr, hb2⟩; obtain ⟨bq, oq, cq, qs, rfl, hcq, hrq, hdq⟩ := hq; obtain ⟨br, or, cr, rs, rfl, hcr, hrr, hdr⟩ := hr; obtain ⟨nr, hnr⟩ : ∃ nr, nr = rs.length := ⟨_, rfl⟩; obtain ⟨nq, hnq⟩ : ∃ nq, nq = qs.length := ⟨_, rfl⟩; rw [← hnr, ← hnq]; have HQ := Lib.hid hdq; have HR := Lib.hid hdr; have HNR := Lib.hid hnr; have HNQ := Lib.hid hnq; have HRQ := Lib.hid hrq; have HRR := Lib.hid hrr; have HCQ := Lib.hid hcq; have HCR := Lib.hid hcr; have HB2 := Lib.hid hb2; have hz : ((nr : Int) == 0) = false := (by rw [beq_eq_false_iff_ne]; intro h0; exact h ((IsD_zero hdr).1 (by omega))); have hqp : (0 : Int) < (nq : Int) := (by have := IsD_zero hdq; omega); clear hdq hdr hnr hnq hrq hrr hcq hcr hb2)
  have hlb : a % b + a % b < 65536 ^ (L + 1) := by have := Nat.mod_lt a hb0; rw [Dg.pow_succ']; omega
  have HRN : Hid (Num w2 (.slice (some ⟨br, or, none⟩) nr cr) (a % b)) := Lib.hid (by rw [HNR.out]; exact ⟨br, or, cr, rs, rfl, HCR.out, HRR.out, HR.out⟩)
  go_wp2_with (go_at_call 56; (with_reducible refine (add_any HRN.out HRN.out (L := L) (Nat.lt_trans (Nat.mod_lt a hb0) lb) (Nat.lt_trans (Nat.mod_lt a hb0) lb) (by omega)).mono ?_); rintro e w4 ⟨v4, rfl, hn4, hb4, hf4⟩)
  have HN4 := Lib.hid hn4
  have HB4 := Lib.hid (HB2.out.trans (hb4.mono HB2.out.size))
  have HB24 := Lib.hid hb4
  have cz := ((HRQ.out.below HB24.out) (by rw [← HNQ.out]; omega)).2 0 (by rw [← HNQ.out]; omega)
  rw [Nat.add_zero] at cz
  obtain ⟨z, hze⟩ : ∃ z, z = qs.getD 0 0 := ⟨_, rfl⟩
  have hzo := odd_of HQ.out
  rw [← hze] at cz hzo
  have hp : ((z : Int) % 2 == 1) = true := by rw [beq_iff_eq]; omega
  clear hze hzo
  clear hn4 hb4 hf4
  go_wp2_with (go_at_call 55; (with_reducible refine (cmp_at HN4.out (HB.out.below HB4.out) (L := L + 1) hlb (by omega) (Dg.cmpN_eq' hc)).mono ?_); rintro e w5 ⟨rfl, q5, rfl⟩)
  have hql : a / b < 65536 ^ L := Nat.lt_of_le_of_lt (Nat.div_le_self a b) la
  have hq1 : a / b < 65536 ^ (L + 1) := by rw [Dg.pow_succ']; omega
  have HN : Hid (Num w4 (.slice (some ⟨bq, oq, none⟩) nq cq) (a / b)) := Lib.hid (Num.below (by rw [HNQ.out]; exact ⟨bq, oq, cq, qs, rfl, HCQ.out, HRQ.out, HQ.out⟩) HB24.out)
  have HO1 : Hid (Num ((w4.drewN q5).alloc (.cells #[.int .i64 1] 3)) (.slice (some ⟨w4.heap.size, 0, none⟩) 1 1) 1) := Lib.hid (num_one (w4.drewN q5))
  go_wp2_with (go_at_call 56; (with_reducible refine (add_any (Num.below (HN.out.drewN q5) (below_alloc _ _)) HO1.out (L := L + 1) hq1 (one_lt _) (by omega)).mono ?_); rintro e w3 ⟨v3, rfl, ⟨b3, o3, c3, ds3, rfl, hc3, hr3, hd3⟩, hb3, hf3⟩)
  go_ret2
  have hz3 : w.heap.size ≤ w4.heap.size := HB4.out.size
  exact round_end rfl hc3 hr3 hd3 (((bDr' HB4.out q5).trans ((below_alloc (w4.drewN q5) _).mono hz3)).trans (hb3.mono (by simp; omega))) (by simp)

set_option maxHeartbeats 2000000 in
theorem near_even_false (va vb : Value) (a b L : Nat) (w : World) (ha : Num w va a) (hb : Num w vb b) (hb0 : 0 < b) (la : a < 65536 ^ L) (lb : b < 65536 ^ L) (hL : L ≤ 40000) (h : a % b ≠ 0) (hc : a % b + a % b = b) (hq0 : 0 < a / b) (ho : a / b % 2 = 0) :
    Calls Try.prog 46 #[va, vb, .bool false, .int .i64 2] w (RoundPost w (a / b) (false && decide (0 < a / b))) := by
  have HA := Lib.hid ha
  have HB := Lib.hid hb
  clear ha hb
  go_enter Try.func46, Try.ntmps46
  go_wp2_with (go_at_call 54; (with_reducible refine (div_any HA.out HB.out hb0 la lb (by omega)).mono ?_); rintro e w2 ⟨vq, vr, rfl, hq, hr, hb2⟩; obtain ⟨bq, oq, cq, qs, rfl, hcq, hrq, hdq⟩ := hq; obtain ⟨br, or, cr, rs, rfl, hcr, hrr, hdr⟩ := hr; obtain ⟨nr, hnr⟩ : ∃ nr, nr = rs.length := ⟨_, rfl⟩; obtain ⟨nq, hnq⟩ : ∃ nq, nq = qs.length := ⟨_, rfl⟩; rw [← hnr, ← hnq]; have HQ := Lib.hid hdq; have HR := Lib.hid hdr; have HNR := Lib.hid hnr; have HNQ := Lib.hid hnq; have HRQ := Lib.hid hrq; have HRR := Lib.hid hrr; have HCQ := Lib.hid hcq; have HCR := Lib.hid hcr; have HB2 := Lib.hid hb2; have hz : ((nr : Int) == 0) = false := (by rw [beq_eq_false_iff_ne]; intro h0; exact h ((IsD_zero hdr).1 (by omega))); have hqp : (0 : Int) < (nq : Int) := (by have := IsD_zero hdq; omega); clear hdq hdr hnr hnq hrq hrr hcq hcr hb2)
  have hlb : a % b + a % b < 65536 ^ (L + 1) := by have := Nat.mod_lt a hb0; rw [Dg.pow_succ']; omega
  have HRN : Hid (Num w2 (.slice (some ⟨br, or, none⟩) nr cr) (a % b)) := Lib.hid (by rw [HNR.out]; exact ⟨br, or, cr, rs, rfl, HCR.out, HRR.out, HR.out⟩)
  go_wp2_with (go_at_call 56; (with_reducible refine (add_any HRN.out HRN.out (L := L) (Nat.lt_trans (Nat.mod_lt a hb0) lb) (Nat.lt_trans (Nat.mod_lt a hb0) lb) (by omega)).mono ?_); rintro e w4 ⟨v4, rfl, hn4, hb4, hf4⟩)
  have HN4 := Lib.hid hn4
  have HB4 := Lib.hid (HB2.out.trans (hb4.mono HB2.out.size))
  have HB24 := Lib.hid hb4
  have cz := ((HRQ.out.below HB24.out) (by rw [← HNQ.out]; omega)).2 0 (by rw [← HNQ.out]; omega)
  rw [Nat.add_zero] at cz
  obtain ⟨z, hze⟩ : ∃ z, z = qs.getD 0 0 := ⟨_, rfl⟩
  have hzo := odd_of HQ.out
  rw [← hze] at cz hzo
  have hp : ((z : Int) % 2 == 1) = false := by rw [beq_eq_false_iff_ne]; omega
  clear hze hzo
  clear hn4 hb4 hf4
  go_wp2_with (go_at_call 55; (with_reducible refine (cmp_at HN4.out (HB.out.below HB4.out) (L := L + 1) hlb (by omega) (Dg.cmpN_eq' hc)).mono ?_); rintro e w5 ⟨rfl, q5, rfl⟩)
  go_ret2
  exact round_end HNQ.out HCQ.out (Rd.drewN (HRQ.out.below HB24.out) q5) HQ.out (bDr' HB4.out q5) (by simp)

set_option maxHeartbeats 2000000 in
theorem near_gt0_true (va vb : Value) (a b L : Nat) (w : World) (ha : Num w va a) (hb : Num w vb b) (hb0 : 0 < b) (la : a < 65536 ^ L) (lb : b < 65536 ^ L) (hL : L ≤ 40000) (h : a % b ≠ 0) (hc : b < a % b + a % b) (hq0 : a / b = 0) :
    Calls Try.prog 46 #[va, vb, .bool true, .int .i64 2] w (RoundPost w (a / b + 1) (true && decide (0 < a / b + 1))) := by
  have HA := Lib.hid ha
  have HB := Lib.hid hb
  clear ha hb
  go_enter Try.func46, Try.ntmps46
  go_wp2_with (go_at_call 54; (with_reducible refine (div_any HA.out HB.out hb0 la lb (by omega)).mono ?_); rintro e w2 ⟨vq, vr, rfl, hq, hr, hb2⟩; obtain ⟨bq, oq, cq, qs, rfl, hcq, hrq, hdq⟩ := hq; obtain ⟨br, or, cr, rs, rfl, hcr, hrr, hdr⟩ := hr; obtain ⟨nr, hnr⟩ : ∃ nr, nr = rs.length := ⟨_, rfl⟩; obtain ⟨nq, hnq⟩ : ∃ nq, nq = qs.length := ⟨_, rfl⟩; rw [← hnr, ← hnq]; have HQ := Lib.hid hdq; have HR := Lib.hid hdr; have HNR := Lib.hid hnr; have HNQ := Lib.hid hnq; have HRQ := Lib.hid hrq; have HRR := Lib.hid hrr; have HCQ := Lib.hid hcq; have HCR := Lib.hid hcr; have HB2 := Lib.hid hb2; have hz : ((nr : Int) == 0) = false := (by rw [beq_eq_false_iff_ne]; intro h0; exact h ((IsD_zero hdr).1 (by omega))); have hqp : (nq : Int) ≤ 0 := (by have := IsD_zero hdq; omega); clear hdq hdr hnr hnq hrq hrr hcq hcr hb2)
  have hlb : a % b + a % b < 65536 ^ (L + 1) := by have := Nat.mod_lt a hb0; rw [Dg.pow_succ']; omega
  have HRN : Hid (Num w2 (.slice (some ⟨br, or, none⟩) nr cr) (a % b)) := Lib.hid (by rw [HNR.out]; exact ⟨br, or, cr, rs, rfl, HCR.out, HRR.out, HR.out⟩)
  go_wp2_with (go_at_call 56; (with_reducible refine (add_any HRN.out HRN.out (L := L) (Nat.lt_trans (Nat.mod_lt a hb0) lb) (Nat.lt_trans (Nat.mod_lt a hb0) lb) (by omega)).mono ?_); rintro e w4 ⟨v4, rfl, hn4, hb4, hf4⟩)
  have HN4 := Lib.hid hn4
  have HB4 := Lib.hid (HB2.out.trans (hb4.mono HB2.out.size))
  have HB24 := Lib.hid hb4
  clear hn4 hb4 hf4
  go_wp2_with (go_at_call 55; (with_reducible refine (cmp_at HN4.out (HB.out.below HB4.out) (L := L + 1) hlb (by omega) (cmp_pos hc)).mono ?_); rintro e w5 ⟨rfl, q5, rfl⟩)
  have hql : a / b < 65536 ^ L := Nat.lt_of_le_of_lt (Nat.div_le_self a b) la
  have hq1 : a / b < 65536 ^ (L + 1) := by rw [Dg.pow_succ']; omega
  have HN : Hid (Num w4 (.slice (some ⟨bq, oq, none⟩) nq cq) (a / b)) := Lib.hid (Num.below (by rw [HNQ.out]; exact ⟨bq, oq, cq, qs, rfl, HCQ.out, HRQ.out, HQ.out⟩) HB24.out)
  have HO1 : Hid (Num ((w4.drewN q5).alloc (.cells #[.int .i64 1] 3)) (.slice (some ⟨w4.heap.size, 0, none⟩) 1 1) 1) := Lib.hid (num_one (w4.drewN q5))
  go_wp2_with (go_at_call 56; (with_reducible refine (add_any (Num.below (HN.out.drewN q5) (below_alloc _ _)) HO1.out (L := L + 1) hq1 (one_lt _) (by omega)).mono ?_); rintro e w3 ⟨v3, rfl, ⟨b3, o3, c3, ds3, rfl, hc3, hr3, hd3⟩, hb3, hf3⟩)
  go_ret2
  have hz3 : w.heap.size ≤ w4.heap.size := HB4.out.size
  exact round_end rfl hc3 hr3 hd3 (((bDr' HB4.out q5).trans ((below_alloc (w4.drewN q5) _).mono hz3)).trans (hb3.mono (by simp; omega))) (by rw [pos_len hd3]; simp)

set_option maxHeartbeats 2000000 in
theorem near_lt0_true (va vb : Value) (a b L : Nat) (w : World) (ha : Num w va a) (hb : Num w vb b) (hb0 : 0 < b) (la : a < 65536 ^ L) (lb : b < 65536 ^ L) (hL : L ≤ 40000) (h : a % b ≠ 0) (hc : a % b + a % b < b) (hq0 : a / b = 0) :
    Calls Try.prog 46 #[va, vb, .bool true, .int .i64 2] w (RoundPost w (a / b) (true && decide (0 < a / b))) := by
  have HA := Lib.hid ha
  have HB := Lib.hid hb
  clear ha hb
  go_enter Try.func46, Try.ntmps46
  go_wp2_with (go_at_call 54; (with_reducible refine (div_any HA.out HB.out hb0 la lb (by omega)).mono ?_); rintro e w2 ⟨vq, vr, rfl, hq, hr, hb2⟩; obtain ⟨bq, oq, cq, qs, rfl, hcq, hrq, hdq⟩ := hq; obtain ⟨br, or, cr, rs, rfl, hcr, hrr, hdr⟩ := hr; obtain ⟨nr, hnr⟩ : ∃ nr, nr = rs.length := ⟨_, rfl⟩; obtain ⟨nq, hnq⟩ : ∃ nq, nq = qs.length := ⟨_, rfl⟩; rw [← hnr, ← hnq]; have HQ := Lib.hid hdq; have HR := Lib.hid hdr; have HNR := Lib.hid hnr; have HNQ := Lib.hid hnq; have HRQ := Lib.hid hrq; have HRR := Lib.hid hrr; have HCQ := Lib.hid hcq; have HCR := Lib.hid hcr; have HB2 := Lib.hid hb2; have hz : ((nr : Int) == 0) = false := (by rw [beq_eq_false_iff_ne]; intro h0; exact h ((IsD_zero hdr).1 (by omega))); have hqp : (nq : Int) ≤ 0 := (by have := IsD_zero hdq; omega); clear hdq hdr hnr hnq hrq hrr hcq hcr hb2)
  have hlb : a % b + a % b < 65536 ^ (L + 1) := by have := Nat.mod_lt a hb0; rw [Dg.pow_succ']; omega
  have HRN : Hid (Num w2 (.slice (some ⟨br, or, none⟩) nr cr) (a % b)) := Lib.hid (by rw [HNR.out]; exact ⟨br, or, cr, rs, rfl, HCR.out, HRR.out, HR.out⟩)
  go_wp2_with (go_at_call 56; (with_reducible refine (add_any HRN.out HRN.out (L := L) (Nat.lt_trans (Nat.mod_lt a hb0) lb) (Nat.lt_trans (Nat.mod_lt a hb0) lb) (by omega)).mono ?_); rintro e w4 ⟨v4, rfl, hn4, hb4, hf4⟩)
  have HN4 := Lib.hid hn4
  have HB4 := Lib.hid (HB2.out.trans (hb4.mono HB2.out.size))
  have HB24 := Lib.hid hb4
  clear hn4 hb4 hf4
  go_wp2_with (go_at_call 55; (with_reducible refine (cmp_at HN4.out (HB.out.below HB4.out) (L := L + 1) hlb (by omega) (cmp_lt hc)).mono ?_); rintro e w5 ⟨rfl, q5, rfl⟩)
  go_ret2
  exact round_end HNQ.out HCQ.out (Rd.drewN (HRQ.out.below HB24.out) q5) HQ.out (bDr' HB4.out q5) (by first | (rw [HNQ.out, pos_len HQ.out]; simp; done) | (rw [hq0]; rfl) | (rw [decide_eq_true hq0]; rfl))

set_option maxHeartbeats 2000000 in
theorem near_gt1_true (va vb : Value) (a b L : Nat) (w : World) (ha : Num w va a) (hb : Num w vb b) (hb0 : 0 < b) (la : a < 65536 ^ L) (lb : b < 65536 ^ L) (hL : L ≤ 40000) (h : a % b ≠ 0) (hc : b < a % b + a % b) (hq0 : 0 < a / b) :
    Calls Try.prog 46 #[va, vb, .bool true, .int .i64 2] w (RoundPost w (a / b + 1) (true && decide (0 < a / b + 1))) := by
  have HA := Lib.hid ha
  have HB := Lib.hid hb
  clear ha hb
  go_enter Try.func46, Try.ntmps46
  go_wp2_with (go_at_call 54; (with_reducible refine (div_any HA.out HB.out hb0 la lb (by omega)).mono ?_); rintro e w2 ⟨vq, vr, rfl, hq, hr, hb2⟩; obtain ⟨bq, oq, cq, qs, rfl, hcq, hrq, hdq⟩ := hq; obtain ⟨br, or, cr, rs, rfl, hcr, hrr, hdr⟩ := hr; obtain ⟨nr, hnr⟩ : ∃ nr, nr = rs.length := ⟨_, rfl⟩; obtain ⟨nq, hnq⟩ : ∃ nq, nq = qs.length := ⟨_, rfl⟩; rw [← hnr, ← hnq]; have HQ := Lib.hid hdq; have HR := Lib.hid hdr; have HNR := Lib.hid hnr; have HNQ := Lib.hid hnq; have HRQ := Lib.hid hrq; have HRR := Lib.hid hrr; have HCQ := Lib.hid hcq; have HCR := Lib.hid hcr; have HB2 := Lib.hid hb2; have hz : ((nr : Int) == 0) = false := (by rw [beq_eq_false_iff_ne]; intro h0; exact h ((IsD_zero hdr).1 (by omega))); have hqp : (0 : Int) < (nq : Int) := (by have := IsD_zero hdq; omega); clear hdq hdr hnr hnq hrq hrr hcq hcr hb2)
  have hlb : a % b + a % b < 65536 ^ (L + 1) := by have := Nat.mod_lt a hb0; rw [Dg.pow_succ']; omega
  have HRN : Hid (Num w2 (.slice (some ⟨br, or, none⟩) nr cr) (a % b)) := Lib.hid (by rw [HNR.out]; exact ⟨br, or, cr, rs, rfl, HCR.out, HRR.out, HR.out⟩)
  go_wp2_with (go_at_call 56; (with_reducible refine (add_any HRN.out HRN.out (L := L) (Nat.lt_trans (Nat.mod_lt a hb0) lb) (Nat.lt_trans (Nat.mod_lt a hb0) lb) (by omega)).mono ?_); rintro e w4 ⟨v4, rfl, hn4, hb4, hf4⟩)
  have HN4 := Lib.hid hn4
  have HB4 := Lib.hid (HB2.out.trans (hb4.mono HB2.out.size))
  have HB24 := Lib.hid hb4
  have cz := ((HRQ.out.below HB24.out) (by rw [← HNQ.out]; omega)).2 0 (by rw [← HNQ.out]; omega)
  rw [Nat.add_zero] at cz
  obtain ⟨z, hze⟩ : ∃ z, z = qs.getD 0 0 := ⟨_, rfl⟩
  have hzo := odd_of HQ.out
  rw [← hze] at cz hzo
  clear hze hzo
  clear hn4 hb4 hf4
  go_wp2_with (go_at_call 55; (with_reducible refine (cmp_at HN4.out (HB.out.below HB4.out) (L := L + 1) hlb (by omega) (cmp_pos hc)).mono ?_); rintro e w5 ⟨rfl, q5, rfl⟩)
  have hql : a / b < 65536 ^ L := Nat.lt_of_le_of_lt (Nat.div_le_self a b) la
  have hq1 : a / b < 65536 ^ (L + 1) := by rw [Dg.pow_succ']; omega
  have HN : Hid (Num w4 (.slice (some ⟨bq, oq, none⟩) nq cq) (a / b)) := Lib.hid (Num.below (by rw [HNQ.out]; exact ⟨bq, oq, cq, qs, rfl, HCQ.out, HRQ.out, HQ.out⟩) HB24.out)
  have HO1 : Hid (Num ((w4.drewN q5).alloc (.cells #[.int .i64 1] 3)) (.slice (some ⟨w4.heap.size, 0, none⟩) 1 1) 1) := Lib.hid (num_one (w4.drewN q5))
  go_wp2_with (go_at_call 56; (with_reducible refine (add_any (Num.below (HN.out.drewN q5) (below_alloc _ _)) HO1.out (L := L + 1) hq1 (one_lt _) (by omega)).mono ?_); rintro e w3 ⟨v3, rfl, ⟨b3, o3, c3, ds3, rfl, hc3, hr3, hd3⟩, hb3, hf3⟩)
  go_ret2
  have hz3 : w.heap.size ≤ w4.heap.size := HB4.out.size
  exact round_end rfl hc3 hr3 hd3 (((bDr' HB4.out q5).trans ((below_alloc (w4.drewN q5) _).mono hz3)).trans (hb3.mono (by simp; omega))) (by rw [pos_len hd3]; simp)

set_option maxHeartbeats 2000000 in
theorem near_lt1_true (va vb : Value) (a b L : Nat) (w : World) (ha : Num w va a) (hb : Num w vb b) (hb0 : 0 < b) (la : a < 65536 ^ L) (lb : b < 65536 ^ L) (hL : L ≤ 40000) (h : a % b ≠ 0) (hc : a % b + a % b < b) (hq0 : 0 < a / b) :
    Calls Try.prog 46 #[va, vb, .bool true, .int .i64 2] w (RoundPost w (a / b) (true && decide (0 < a / b))) := by
  have HA := Lib.hid ha
  have HB := Lib.hid hb
  clear ha hb
  go_enter Try.func46, Try.ntmps46
  go_wp2_with (go_at_call 54; (with_reducible refine (div_any HA.out HB.out hb0 la lb (by omega)).mono ?_); rintro e w2 ⟨vq, vr, rfl, hq, hr, hb2⟩; obtain ⟨bq, oq, cq, qs, rfl, hcq, hrq, hdq⟩ := hq; obtain ⟨br, or, cr, rs, rfl, hcr, hrr, hdr⟩ := hr; obtain ⟨nr, hnr⟩ : ∃ nr, nr = rs.length := ⟨_, rfl⟩; obtain ⟨nq, hnq⟩ : ∃ nq, nq = qs.length := ⟨_, rfl⟩; rw [← hnr, ← hnq]; have HQ := Lib.hid hdq; have HR := Lib.hid hdr; have HNR := Lib.hid hnr; have HNQ := Lib.hid hnq; have HRQ := Lib.hid hrq; have HRR := Lib.hid hrr; have HCQ := Lib.hid hcq; have HCR := Lib.hid hcr; have HB2 := Lib.hid hb2; have hz : ((nr : Int) == 0) = false := (by rw [beq_eq_false_iff_ne]; intro h0; exact h ((IsD_zero hdr).1 (by omega))); have hqp : (0 : Int) < (nq : Int) := (by have := IsD_zero hdq; omega); clear hdq hdr hnr hnq hrq hrr hcq hcr hb2)
  have hlb : a % b + a % b < 65536 ^ (L + 1) := by have := Nat.mod_lt a hb0; rw [Dg.pow_succ']; omega
  have HRN : Hid (Num w2 (.slice (some ⟨br, or, none⟩) nr cr) (a % b)) := Lib.hid (by rw [HNR.out]; exact ⟨br, or, cr, rs, rfl, HCR.out, HRR.out, HR.out⟩)
  go_wp2_with (go_at_call 56; (with_reducible refine (add_any HRN.out HRN.out (L := L) (Nat.lt_trans (Nat.mod_lt a hb0) lb) (Nat.lt_trans (Nat.mod_lt a hb0) lb) (by omega)).mono ?_); rintro e w4 ⟨v4, rfl, hn4, hb4, hf4⟩)
  have HN4 := Lib.hid hn4
  have HB4 := Lib.hid (HB2.out.trans (hb4.mono HB2.out.size))
  have HB24 := Lib.hid hb4
  have cz := ((HRQ.out.below HB24.out) (by rw [← HNQ.out]; omega)).2 0 (by rw [← HNQ.out]; omega)
  rw [Nat.add_zero] at cz
  obtain ⟨z, hze⟩ : ∃ z, z = qs.getD 0 0 := ⟨_, rfl⟩
  have hzo := odd_of HQ.out
  rw [← hze] at cz hzo
  clear hze hzo
  clear hn4 hb4 hf4
  go_wp2_with (go_at_call 55; (with_reducible refine (cmp_at HN4.out (HB.out.below HB4.out) (L := L + 1) hlb (by omega) (cmp_lt hc)).mono ?_); rintro e w5 ⟨rfl, q5, rfl⟩)
  go_ret2
  exact round_end HNQ.out HCQ.out (Rd.drewN (HRQ.out.below HB24.out) q5) HQ.out (bDr' HB4.out q5) (by first | (rw [HNQ.out, pos_len HQ.out]; simp; done) | (rw [hq0]; rfl) | (rw [decide_eq_true hq0]; rfl))

set_option maxHeartbeats 2000000 in
theorem near_eq0_true (va vb : Value) (a b L : Nat) (w : World) (ha : Num w va a) (hb : Num w vb b) (hb0 : 0 < b) (la : a < 65536 ^ L) (lb : b < 65536 ^ L) (hL : L ≤ 40000) (h : a % b ≠ 0) (hc : a % b + a % b = b) (hq0 : a / b = 0) :
    Calls Try.prog 46 #[va, vb, .bool true, .int .i64 2] w (RoundPost w (a / b) (true && decide (0 < a / b))) := by
  have HA := Lib.hid ha
  have HB := Lib.hid hb
  clear ha hb
  go_enter Try.func46, Try.ntmps46
  go_wp2_with (go_at_call 54; (with_reducible refine (div_any HA.out HB.out hb0 la lb (by omega)).mono ?_); rintro e w2 ⟨vq, vr, rfl, hq, hr, hb2⟩; obtain ⟨bq, oq, cq, qs, rfl, hcq, hrq, hdq⟩ := hq; obtain ⟨br, or, cr, rs, rfl, hcr, hrr, hdr⟩ := hr; obtain ⟨nr, hnr⟩ : ∃ nr, nr = rs.length := ⟨_, rfl⟩; obtain ⟨nq, hnq⟩ : ∃ nq, nq = qs.length := ⟨_, rfl⟩; rw [← hnr, ← hnq]; have HQ := Lib.hid hdq; have HR := Lib.hid hdr; have HNR := Lib.hid hnr; have HNQ := Lib.hid hnq; have HRQ := Lib.hid hrq; have HRR := Lib.hid hrr; have HCQ := Lib.hid hcq; have HCR := Lib.hid hcr; have HB2 := Lib.hid hb2; have hz : ((nr : Int) == 0) = false := (by rw [beq_eq_false_iff_ne]; intro h0; exact h ((IsD_zero hdr).1 (by omega))); have hqp : (nq : Int) ≤ 0 := (by have := IsD_zero hdq; omega); clear hdq hdr hnr hnq hrq hrr hcq hcr hb2)
  have hlb : a % b + a % b < 65536 ^ (L + 1) := by have := Nat.mod_lt a hb0; rw [Dg.pow_succ']; omega
  have HRN : Hid (Num w2 (.slice (some ⟨br, or, none⟩) nr cr) (a % b)) := Lib.hid (by rw [HNR.out]; exact ⟨br, or, cr, rs, rfl, HCR.out, HRR.out, HR.out⟩)
  go_wp2_with (go_at_call 56; (with_reducible refine (add_any HRN.out HRN.out (L := L) (Nat.lt_trans (Nat.mod_lt a hb0) lb) (Nat.lt_trans (Nat.mod_lt a hb0) lb) (by omega)).mono ?_); rintro e w4 ⟨v4, rfl, hn4, hb4, hf4⟩)
  have HN4 := Lib.hid hn4
  have HB4 := Lib.hid (HB2.out.trans (hb4.mono HB2.out.size))
  have HB24 := Lib.hid hb4
  clear hn4 hb4 hf4
  go_wp2_with (go_at_call 55; (with_reducible refine (cmp_at HN4.out (HB.out.below HB4.out) (L := L + 1) hlb (by omega) (Dg.cmpN_eq' hc)).mono ?_); rintro e w5 ⟨rfl, q5, rfl⟩)
  go_ret2
  exact round_end HNQ.out HCQ.out (Rd.drewN (HRQ.out.below HB24.out) q5) HQ.out (bDr' HB4.out q5) (by first | (rw [HNQ.out, pos_len HQ.out]; simp; done) | (rw [hq0]; rfl) | (rw [decide_eq_true hq0]; rfl))

set_option maxHeartbeats 2000000 in
theorem near_odd_true (va vb : Value) (a b L : Nat) (w : World) (ha : Num w va a) (hb : Num w vb b) (hb0 : 0 < b) (la : a < 65536 ^ L) (lb : b < 65536 ^ L) (hL : L ≤ 40000) (h : a % b ≠ 0) (hc : a % b + a % b = b) (hq0 : 0 < a / b) (ho : a / b % 2 = 1) :
    Calls Try.prog 46 #[va, vb, .bool true, .int .i64 2] w (RoundPost w (a / b + 1) (true && decide (0 < a / b + 1))) := by
  have HA := Lib.hid ha
  have HB := Lib.hid hb
  clear ha hb
  go_enter Try.func46, Try.ntmps46
  go_wp2_with (go_at_call 54; (with_reducible refine (div_any HA.out HB.out hb0 la lb (by omega)).mono ?_); rintro e w2 ⟨vq, vr, rfl, hq, hr, hb2⟩; obtain ⟨bq, oq, cq, qs, rfl, hcq, hrq, hdq⟩ := hq; obtain ⟨br, or, cr, rs, rfl, hcr, hrr, hdr⟩ := hr; obtain ⟨nr, hnr⟩ : ∃ nr, nr = rs.length := ⟨_, rfl⟩; obtain ⟨nq, hnq⟩ : ∃ nq, nq = qs.length := ⟨_, rfl⟩; rw [← hnr, ← hnq]; have HQ := Lib.hid hdq; have HR := Lib.hid hdr; have HNR := Lib.hid hnr; have HNQ := Lib.hid hnq; have HRQ := Lib.hid hrq; have HRR := Lib.hid hrr; have HCQ := Lib.hid hcq; have HCR := Lib.hid hcr; have HB2 := Lib.hid hb2; have hz : ((nr : Int) == 0) = false := (by rw [beq_eq_false_iff_ne]; intro h0; exact h ((IsD_zero hdr).1 (by omega))); have hqp : (0 : Int) < (nq : Int) := (by have := IsD_zero hdq; omega); clear hdq hdr hnr hnq hrq hrr hcq hcr hb2)
  have hlb : a % b + a % b < 65536 ^ (L + 1) := by have := Nat.mod_lt a hb0; rw [Dg.pow_succ']; omega
  have HRN : Hid (Num w2 (.slice (some ⟨br, or, none⟩) nr cr) (a % b)) := Lib.hid (by rw [HNR.out]; exact ⟨br, or, cr, rs, rfl, HCR.out, HRR.out, HR.out⟩)
  go_wp2_with (go_at_call 56; (with_reducible refine (add_any HRN.out HRN.out (L := L) (Nat.lt_trans (Nat.mod_lt a hb0) lb) (Nat.lt_trans (Nat.mod_lt a hb0) lb) (by omega)).mono ?_); rintro e w4 ⟨v4, rfl, hn4, hb4, hf4⟩)
  have HN4 := Lib.hid hn4
  have HB4 := Lib.hid (HB2.out.trans (hb4.mono HB2.out.size))
  have HB24 := Lib.hid hb4
  have cz := ((HRQ.out.below HB24.out) (by rw [← HNQ.out]; omega)).2 0 (by rw [← HNQ.out]; omega)
  rw [Nat.add_zero] at cz
  obtain ⟨z, hze⟩ : ∃ z, z = qs.getD 0 0 := ⟨_, rfl⟩
  have hzo := odd_of HQ.out
  rw [← hze] at cz hzo
  have hp : ((z : Int) % 2 == 1) = true := by rw [beq_iff_eq]; omega
  clear hze hzo
  clear hn4 hb4 hf4
  go_wp2_with (go_at_call 55; (with_reducible refine (cmp_at HN4.out (HB.out.below HB4.out) (L := L + 1) hlb (by omega) (Dg.cmpN_eq' hc)).mono ?_); rintro e w5 ⟨rfl, q5, rfl⟩)
  have hql : a / b < 65536 ^ L := Nat.lt_of_le_of_lt (Nat.div_le_self a b) la
  have hq1 : a / b < 65536 ^ (L + 1) := by rw [Dg.pow_succ']; omega
  have HN : Hid (Num w4 (.slice (some ⟨bq, oq, none⟩) nq cq) (a / b)) := Lib.hid (Num.below (by rw [HNQ.out]; exact ⟨bq, oq, cq, qs, rfl, HCQ.out, HRQ.out, HQ.out⟩) HB24.out)
  have HO1 : Hid (Num ((w4.drewN q5).alloc (.cells #[.int .i64 1] 3)) (.slice (some ⟨w4.heap.size, 0, none⟩) 1 1) 1) := Lib.hid (num_one (w4.drewN q5))
  go_wp2_with (go_at_call 56; (with_reducible refine (add_any (Num.below (HN.out.drewN q5) (below_alloc _ _)) HO1.out (L := L + 1) hq1 (one_lt _) (by omega)).mono ?_); rintro e w3 ⟨v3, rfl, ⟨b3, o3, c3, ds3, rfl, hc3, hr3, hd3⟩, hb3, hf3⟩)
  go_ret2
  have hz3 : w.heap.size ≤ w4.heap.size := HB4.out.size
  exact round_end rfl hc3 hr3 hd3 (((bDr' HB4.out q5).trans ((below_alloc (w4.drewN q5) _).mono hz3)).trans (hb3.mono (by simp; omega))) (by rw [pos_len hd3]; simp)

set_option maxHeartbeats 2000000 in
theorem near_even_true (va vb : Value) (a b L : Nat) (w : World) (ha : Num w va a) (hb : Num w vb b) (hb0 : 0 < b) (la : a < 65536 ^ L) (lb : b < 65536 ^ L) (hL : L ≤ 40000) (h : a % b ≠ 0) (hc : a % b + a % b = b) (hq0 : 0 < a / b) (ho : a / b % 2 = 0) :
    Calls Try.prog 46 #[va, vb, .bool true, .int .i64 2] w (RoundPost w (a / b) (true && decide (0 < a / b))) := by
  have HA := Lib.hid ha
  have HB := Lib.hid hb
  clear ha hb
  go_enter Try.func46, Try.ntmps46
  go_wp2_with (go_at_call 54; (with_reducible refine (div_any HA.out HB.out hb0 la lb (by omega)).mono ?_); rintro e w2 ⟨vq, vr, rfl, hq, hr, hb2⟩; obtain ⟨bq, oq, cq, qs, rfl, hcq, hrq, hdq⟩ := hq; obtain ⟨br, or, cr, rs, rfl, hcr, hrr, hdr⟩ := hr; obtain ⟨nr, hnr⟩ : ∃ nr, nr = rs.length := ⟨_, rfl⟩; obtain ⟨nq, hnq⟩ : ∃ nq, nq = qs.length := ⟨_, rfl⟩; rw [← hnr, ← hnq]; have HQ := Lib.hid hdq; have HR := Lib.hid hdr; have HNR := Lib.hid hnr; have HNQ := Lib.hid hnq; have HRQ := Lib.hid hrq; have HRR := Lib.hid hrr; have HCQ := Lib.hid hcq; have HCR := Lib.hid hcr; have HB2 := Lib.hid hb2; have hz : ((nr : Int) == 0) = false := (by rw [beq_eq_false_iff_ne]; intro h0; exact h ((IsD_zero hdr).1 (by omega))); have hqp : (0 : Int) < (nq : Int) := (by have := IsD_zero hdq; omega); clear hdq hdr hnr hnq hrq hrr hcq hcr hb2)
  have hlb : a % b + a % b < 65536 ^ (L + 1) := by have := Nat.mod_lt a hb0; rw [Dg.pow_succ']; omega
  have HRN : Hid (Num w2 (.slice (some ⟨br, or, none⟩) nr cr) (a % b)) := Lib.hid (by rw [HNR.out]; exact ⟨br, or, cr, rs, rfl, HCR.out, HRR.out, HR.out⟩)
  go_wp2_with (go_at_call 56; (with_reducible refine (add_any HRN.out HRN.out (L := L) (Nat.lt_trans (Nat.mod_lt a hb0) lb) (Nat.lt_trans (Nat.mod_lt a hb0) lb) (by omega)).mono ?_); rintro e w4 ⟨v4, rfl, hn4, hb4, hf4⟩)
  have HN4 := Lib.hid hn4
  have HB4 := Lib.hid (HB2.out.trans (hb4.mono HB2.out.size))
  have HB24 := Lib.hid hb4
  have cz := ((HRQ.out.below HB24.out) (by rw [← HNQ.out]; omega)).2 0 (by rw [← HNQ.out]; omega)
  rw [Nat.add_zero] at cz
  obtain ⟨z, hze⟩ : ∃ z, z = qs.getD 0 0 := ⟨_, rfl⟩
  have hzo := odd_of HQ.out
  rw [← hze] at cz hzo
  have hp : ((z : Int) % 2 == 1) = false := by rw [beq_eq_false_iff_ne]; omega
  clear hze hzo
  clear hn4 hb4 hf4
  go_wp2_with (go_at_call 55; (with_reducible refine (cmp_at HN4.out (HB.out.below HB4.out) (L := L + 1) hlb (by omega) (Dg.cmpN_eq' hc)).mono ?_); rintro e w5 ⟨rfl, q5, rfl⟩)
  go_ret2
  exact round_end HNQ.out HCQ.out (Rd.drewN (HRQ.out.below HB24.out) q5) HQ.out (bDr' HB4.out q5) (by first | (rw [HNQ.out, pos_len HQ.out]; simp; done) | (rw [hq0]; rfl) | (rw [decide_eq_true hq0]; rfl))


theorem round_any (va vb : Value) (a b L : Nat) (w : World) (minus : Bool) (round : Int) (ha : Num w va a) (hb : Num w vb b) (hb0 : 0 < b) (la : a < 65536 ^ L) (lb : b < 65536 ^ L) (hL : L ≤ 40000) (hr : 0 ≤ round ∧ round ≤ 2) :
    Calls Try.prog 46 #[va, vb, .bool minus, .int .i64 round] w (RoundPost w (a / b + (if rdM (a / b) (a % b) b minus round = true then 1 else 0)) (minus && decide (0 < a / b + (if rdM (a / b) (a % b) b minus round = true then 1 else 0)))) := by
  by_cases h : a % b = 0
  · have e : rdM (a / b) (a % b) b minus round = false := by simp [rdM, h]
    rw [e]
    cases minus
    · simpa using round_none_false va vb a b L w ha hb hb0 la lb hL round h
    · simpa using round_none_true va vb a b L w ha hb hb0 la lb hL round h
  · have hr3 : round = 0 ∨ round = 1 ∨ round = 2 := by omega
    rcases hr3 with rfl | rfl | rfl
    · have e : rdM (a / b) (a % b) b minus 0 = minus := by simp [rdM, h]
      rw [e]
      cases minus
      · simpa using round_down_false va vb a b L w ha hb hb0 la lb hL h
      · simpa using round_down_true va vb a b L w ha hb hb0 la lb hL h
    · have e : rdM (a / b) (a % b) b minus 1 = !minus := by simp [rdM, h]
      rw [e]
      cases minus
      · simpa using round_up_false va vb a b L w ha hb hb0 la lb hL h
      · simpa using round_up_true va vb a b L w ha hb hb0 la lb hL h
    · have e : rdM (a / b) (a % b) b minus 2 = (decide (b < a % b + a % b) || (decide (a % b + a % b = b) && decide (a / b % 2 = 1))) := by simp [rdM, h]
      rw [e]
      rcases Nat.lt_trichotomy (a % b + a % b) b with hc | hc | hc
      · have e2 : (decide (b < a % b + a % b) || (decide (a % b + a % b = b) && decide (a / b % 2 = 1))) = false := by
          rw [decide_eq_false (by omega), decide_eq_false (by omega)]; rfl
        rw [e2]
        rcases Nat.eq_zero_or_pos (a / b) with hq | hq
        · cases minus
          · simpa using near_lt0_false va vb a b L w ha hb hb0 la lb hL h hc hq
          · simpa using near_lt0_true va vb a b L w ha hb hb0 la lb hL h hc hq
        · cases minus
          · simpa using near_lt1_false va vb a b L w ha hb hb0 la lb hL h hc hq
          · simpa using near_lt1_true va vb a b L w ha hb hb0 la lb hL h hc hq
      · rcases Nat.eq_zero_or_pos (a / b) with hq | hq
        · have e2 : (decide (b < a % b + a % b) || (decide (a % b + a % b = b) && decide (a / b % 2 = 1))) = false := by
            rw [decide_eq_false (by omega), decide_eq_false (show ¬ a / b % 2 = 1 by omega)]; simp
          rw [e2]
          cases minus
          · simpa using near_eq0_false va vb a b L w ha hb hb0 la lb hL h hc hq
          · simpa using near_eq0_true va vb a b L w ha hb hb0 la lb hL h hc hq
        · by_cases ho : a / b % 2 = 1
          · have e2 : (decide (b < a % b + a % b) || (decide (a % b + a % b = b) && decide (a / b % 2 = 1))) = true := by
              rw [decide_eq_true hc, decide_eq_true ho]; simp
            rw [e2]
            cases minus
            · simpa using near_odd_false va vb a b L w ha hb hb0 la lb hL h hc hq ho
            · simpa using near_odd_true va vb a b L w ha hb hb0 la lb hL h hc hq ho
          · have e2 : (decide (b < a % b + a % b) || (decide (a % b + a % b = b) && decide (a / b % 2 = 1))) = false := by
              rw [decide_eq_false (by omega), decide_eq_false ho]; simp
            rw [e2]
            cases minus
            · simpa using near_even_false va vb a b L w ha hb hb0 la lb hL h hc hq (by omega)
            · simpa using near_even_true va vb a b L w ha hb hb0 la lb hL h hc hq (by omega)
      · have e2 : (decide (b < a % b + a % b) || (decide (a % b + a % b = b) && decide (a / b % 2 = 1))) = true := by
          rw [decide_eq_true hc]; simp
        rw [e2]
        rcases Nat.eq_zero_or_pos (a / b) with hq | hq
        · cases minus
          · simpa using near_gt0_false va vb a b L w ha hb hb0 la lb hL h hc hq
          · simpa using near_gt0_true va vb a b L w ha hb hb0 la lb hL h hc hq
        · cases minus
          · simpa using near_gt1_false va vb a b L w ha hb hb0 la lb hL h hc hq
          · simpa using near_gt1_true va vb a b L w ha hb hb0 la lb hL h hc hq

end Go.Proofs.Ytffjbngelapmmaa
