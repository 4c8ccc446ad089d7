/- For every start, turns and time OscWhens answers true: When is the first true time at which a clock tells so much, or there is none. No condition. -/
import Derived.Test.YtffjbngelapmmaaFOscWhens
namespace Go.Proofs.Ytffjbngelapmmaa
open Go.RowKit Go.Joins

theorem whens_many (p : Option Addr) (n c : Nat) (s q : Int) (w : World) (h : 64 < n) :
    Calls Try.prog 4 #[.int .i64 s, .slice p n c, .int .i64 q] w fun e w' => e = .returned (.bool true) ∧ Below w.heap.size w w' := by
  have HH := head_ret
  have d1 : decide ((64 : Int) < (n : Int)) = true := decide_eq_true (by omega)
  go_enter Try.func4, Try.ntmps4
  go_wp2_with (first
    | (go_at_call 8; (with_reducible refine (HH.go _).mono ?_); rintro e w1 ⟨rfl, hb⟩; have HB := Lib.hid hb; clear hb))
  go_ret
  exact ⟨rfl, HB.out⟩
theorem whens_none (p : Option Addr) (n c : Nat) (s q x : Int) (ts : List (Int × Int)) (w : World) (h : TArg w (.slice p n c) ts) (hn : n ≤ 64) (hx : newE s 1 ts = x) (h0 : x ≠ 0) :
    Calls Try.prog 4 #[.int .i64 s, .slice p n c, .int .i64 q] w fun e w' => e = .returned (.bool true) ∧ Below w.heap.size w w' := by
  have HH := head_ret
  have d1 : decide ((64 : Int) < (n : Int)) = false := decide_eq_false (by omega)
  have d2 : (x != 0) = true := by rw [bne_iff_ne]; exact h0
  have HN : Hid (∀ w1, Below w.heap.size w w1 → Calls Try.prog 9 #[.int .i64 s, .int .i64 1, .slice p n c] w1 fun e w' => e = .returned (.tuple #[.pointer none, .int .i64 x]) ∧ Below w1.heap.size w1 w') := Lib.hid (fun w1 hb => (new_any (s := s) (g := 1) (h.below hb)).mono fun e w' hh => ⟨by rw [← hx]; exact hh.1 (by rw [hx]; exact h0), hh.2.2⟩)
  clear h hx h0
  go_enter Try.func4, Try.ntmps4
  go_wp2_with (first
    | (go_at_call 8; (with_reducible refine (HH.go _).mono ?_); rintro e w1 ⟨rfl, hb⟩; have HB := Lib.hid hb; clear hb)
    | (go_at_call 9; (with_reducible refine (HN.out _ HB.out).mono ?_); rintro e w2 ⟨rfl, hb⟩; replace HB := Lib.hid (bTr HB.out hb); clear hb))
  go_ret
  exact ⟨rfl, HB.out⟩
/-- New of right turns, in whatever later world. -/
theorem new_right {p : Option Addr} {n c : Nat} {s g : Int} {ts : List (Int × Int)} {w : World} (h : TArg w (.slice p n c) ts) (hx : newE s g ts = 0) :
    Hid (∀ w1, Below w.heap.size w w1 → Calls Try.prog 9 #[.int .i64 s, .int .i64 g, .slice p n c] w1 fun e w' => ∃ b, e = .returned (.tuple #[.pointer (some ⟨b, 0, none⟩), .int .i64 0]) ∧ Clk w1.heap.size w' (.pointer (some ⟨b, 0, none⟩)) s g ts ∧ Below w1.heap.size w1 w') :=
  Lib.hid (fun w1 hb => (new_any (s := s) (g := g) (h.below hb)).mono fun e w' hh => by
    obtain ⟨v, rfl, hc⟩ := hh.2.1 hx
    have hc' := hc
    obtain ⟨b, l, c, rfl, _⟩ := hc'
    exact ⟨b, rfl, hc, hh.2.2⟩)

set_option maxHeartbeats 1000000 in
theorem whens_some (p : Option Addr) (n c : Nat) (s q : Int) (ts : List (Int × Int)) (w : World) (h : TArg w (.slice p n c) ts) (hn : n ≤ 64) (hx : newE s 1 ts = 0) :
    Calls Try.prog 4 #[.int .i64 s, .slice p n c, .int .i64 q] w fun e w' => e = .returned (.bool true) ∧ Below w.heap.size w w' := by
  have HH := head_ret
  have d1 : decide ((64 : Int) < (n : Int)) = false := decide_eq_false (by omega)
  have HN := new_right h hx
  obtain ⟨hg, _, _, hs⟩ := newE_zero hx
  have HG := Lib.hid hg
  have HS : Hid (Start s) := Lib.hid hs
  have HM : Hid ((0 : Int) ≤ 1099511627776 ∧ (1099511627776 : Int) ≤ 1099511627776) := Lib.hid ⟨by omega, by omega⟩
  clear h hx hg hs
  go_enter Try.func4, Try.ntmps4
  go_wp2_with (first
    | (go_at_call 8; (with_reducible refine (HH.go _).mono ?_); rintro e w1 ⟨rfl, hb⟩; have HB := Lib.hid hb; clear hb)
    | (go_at_call 9; (with_reducible refine (HN.out _ HB.out).mono ?_); rintro e w2 ⟨b, rfl, hc, hb⟩; have HC := Lib.hid hc; replace HB := Lib.hid (bTr HB.out hb); clear hc hb))
  refine (when_ok HC.out HG.out HS.out q).mono ?_
  rintro e w3 ⟨t, x, rfl, hw, hb⟩
  replace HC := Lib.hid (HC.out.below hb)
  replace HB := Lib.hid (bTr HB.out hb)
  clear hb
  obtain ⟨y, hy⟩ : ∃ y, tell s ts 1099511627776 = y := ⟨_, rfl⟩
  have HY := Lib.hid hy
  rcases hw with ⟨rfl, t0, t1, ht, hlo⟩ | ⟨rfl, rfl, ht⟩
  · obtain ⟨z, hz⟩ : ∃ z, tell s ts t = z := ⟨_, rfl⟩
    have hmon := tell_on (s := s) HG.out t0 t1
    have d2 : decide (y < q) = false := decide_eq_false (by rw [← hy]; omega)
    have d3 : decide (z < q) = false := decide_eq_false (by rw [← hz]; omega)
    have HZ := Lib.hid hz
    have HT : Hid ((0 : Int) ≤ t ∧ t ≤ 1099511627776) := Lib.hid ⟨t0, t1⟩
    by_cases h0 : t = 0
    · subst h0
      clear hlo hmon hy hz ht t0 t1
      go_wp2_with (first
        | (go_at_call 12; (with_reducible refine (at_ok HC.out HG.out HS.out 1099511627776 HM.out.1 HM.out.2 y HY.out).mono ?_); rintro e w4 ⟨rfl, hb⟩; replace HC := Lib.hid (HC.out.below hb); replace HB := Lib.hid (bTr HB.out hb); clear hb)
        | (go_at_call 12; (with_reducible refine (at_ok HC.out HG.out HS.out 0 HT.out.1 HT.out.2 z HZ.out).mono ?_); rintro e w5 ⟨rfl, hb⟩; replace HC := Lib.hid (HC.out.below hb); replace HB := Lib.hid (bTr HB.out hb); clear hb))
      go_ret
      exact ⟨rfl, HB.out⟩
    · have d4 : (t == 0) = false := by rw [beq_eq_false_iff_ne]; exact h0
      obtain ⟨u, hu⟩ : ∃ u, tell s ts (t - 1) = u := ⟨_, rfl⟩
      have d5 : decide (u < q) = true := decide_eq_true (by rw [← hu]; exact hlo (t - 1) (by omega) (by omega))
      have HU := Lib.hid hu
      have HT1 : Hid ((0 : Int) ≤ t - 1 ∧ t - 1 ≤ 1099511627776) := Lib.hid ⟨by omega, by omega⟩
      have e1 : wrap64 (t - 1) = t - 1 := by unfold wrap64; omega
      clear hlo hmon hy hz hu ht t0 t1 h0
      go_wp2_with (first
        | (go_at_call 12; (with_reducible refine (at_ok HC.out HG.out HS.out 1099511627776 HM.out.1 HM.out.2 y HY.out).mono ?_); rintro e w4 ⟨rfl, hb⟩; replace HC := Lib.hid (HC.out.below hb); replace HB := Lib.hid (bTr HB.out hb); clear hb)
        | (go_at_call 12; (with_reducible refine (at_ok HC.out HG.out HS.out t HT.out.1 HT.out.2 z HZ.out).mono ?_); rintro e w5 ⟨rfl, hb⟩; replace HC := Lib.hid (HC.out.below hb); replace HB := Lib.hid (bTr HB.out hb); clear hb)
        | (go_at_call 12; (with_reducible refine (at_ok HC.out HG.out HS.out (t - 1) HT1.out.1 HT1.out.2 u HU.out).mono ?_); rintro e w6 ⟨rfl, hb⟩; replace HC := Lib.hid (HC.out.below hb); replace HB := Lib.hid (bTr HB.out hb); clear hb))
      go_ret
      exact ⟨rfl, HB.out⟩
  · have d2 : decide (y < q) = true := decide_eq_true (by rw [← hy]; exact ht)
    clear hy ht
    go_wp2_with (first
      | (go_at_call 12; (with_reducible refine (at_ok HC.out HG.out HS.out 1099511627776 HM.out.1 HM.out.2 y HY.out).mono ?_); rintro e w4 ⟨rfl, hb⟩; replace HC := Lib.hid (HC.out.below hb); replace HB := Lib.hid (bTr HB.out hb); clear hb))
    go_ret
    exact ⟨rfl, HB.out⟩

theorem oscWhens_holds : Rows.OscWhensSaid := oscWhens_of (fun s v ts q w _ _ h _ _ => by
  obtain ⟨p, c, rfl⟩ := h.slice
  rcases Nat.lt_or_ge 64 ts.length with h1 | h1
  · exact whens_many p _ c s q w h1
  · by_cases hx : newE s 1 ts = 0
    · exact whens_some p _ c s q ts w h h1 hx
    · exact whens_none p _ c s q _ ts w h h1 rfl hx)

end Go.Proofs.Ytffjbngelapmmaa
