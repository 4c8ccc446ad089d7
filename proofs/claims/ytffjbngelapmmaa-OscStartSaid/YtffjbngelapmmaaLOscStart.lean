/- For every two starts, turns and time OscStart answers true: clocks that start at unlike times, and run alike, are always as much apart. No condition. -/
import Derived.Test.YtffjbngelapmmaaFOscStart
import Derived.Test.YtffjbngelapmmaaOsNew
namespace Go.Proofs.Ytffjbngelapmmaa
open Go.RowKit Go.Joins

theorem start_many (p : Option Addr) (n c : Nat) (a b x : Int) (w : World) (h : 64 < n) :
    Calls Try.prog 6 #[.int .i64 a, .int .i64 b, .slice p n c, .int .i64 x] w fun e w' => e = .returned (.bool true) ∧ Below w.heap.size w w' := by
  have HH := head_ret
  have d1 : decide ((64 : Int) < (n : Int)) = true := decide_eq_true (by omega)
  go_enter Try.func6, Try.ntmps6
  go_wp2_with (first
    | (go_at_call 8; (with_reducible refine (HH.go _).mono ?_); rintro e w1 ⟨rfl, hb⟩; have HB := Lib.hid hb; clear hb))
  go_ret
  exact ⟨rfl, HB.out⟩
theorem start_none (p : Option Addr) (n c : Nat) (a b a' b' x y : Int) (ts : List (Int × Int)) (w : World) (h : TArg w (.slice p n c) ts) (hn : n ≤ 64) (ha : bits .and .i64 a 281474976710655 = a') (hb : bits .and .i64 b 281474976710655 = b')
    (hx : newE a' 1 ts = y) (hx2 : newE b' 1 ts = y) (h0 : y ≠ 0) :
    Calls Try.prog 6 #[.int .i64 a, .int .i64 b, .slice p n c, .int .i64 x] w fun e w' => e = .returned (.bool true) ∧ Below w.heap.size w w' := by
  have HH := head_ret
  have d1 : decide ((64 : Int) < (n : Int)) = false := decide_eq_false (by omega)
  have d2 : (y != 0) = true := by rw [bne_iff_ne]; exact h0
  have HN := newWrong h hx h0
  have HN2 := newWrong h hx2 h0
  clear h hx hx2 h0
  go_enter Try.func6, Try.ntmps6
  go_wp2_with (first
    | (go_at_call 8; (with_reducible refine (HH.go _).mono ?_); rintro e w1 ⟨rfl, hb⟩; have HB := Lib.hid hb; clear hb)
    | (go_at_call 9; (with_reducible refine (HN.out _ HB.out).mono ?_); rintro e w2 ⟨rfl, hb⟩; replace HB := Lib.hid (bTr HB.out hb); clear hb)
    | (go_at_call 9; (with_reducible refine (HN2.out _ HB.out).mono ?_); rintro e w2 ⟨rfl, hb⟩; replace HB := Lib.hid (bTr HB.out hb); clear hb))
  go_ret
  exact ⟨by simp, HB.out⟩

set_option maxHeartbeats 1000000 in
theorem start_some (p : Option Addr) (n c : Nat) (a b a' b' x x' : Int) (ts : List (Int × Int)) (w : World) (h : TArg w (.slice p n c) ts) (hn : n ≤ 64) (ha : bits .and .i64 a 281474976710655 = a') (hb : bits .and .i64 b 281474976710655 = b') (hxx : bits .and .i64 x 1099511627775 = x')
    (a0 : 0 ≤ a' ∧ a' < 281474976710656) (b0 : 0 ≤ b' ∧ b' < 281474976710656) (x0 : 0 ≤ x' ∧ x' < 1099511627776) (hx : newE a' 1 ts = 0) (hx2 : newE b' 1 ts = 0) :
    Calls Try.prog 6 #[.int .i64 a, .int .i64 b, .slice p n c, .int .i64 x] w fun e w' => e = .returned (.bool true) ∧ Below w.heap.size w w' := by
  have HH := head_ret
  have d1 : decide ((64 : Int) < (n : Int)) = false := decide_eq_false (by omega)
  have HN := newRight h hx
  have HN2 := newRight h hx2
  obtain ⟨hg, _, _, hs⟩ := newE_zero hx
  obtain ⟨_, _, _, hs2⟩ := newE_zero hx2
  have HG := Lib.hid hg
  have HS : Hid (Start a') := Lib.hid hs
  have HS2 : Hid (Start b') := Lib.hid hs2
  have t1 := tell_start a' ts x'
  have t2 := tell_start b' ts x'
  obtain ⟨y, hy⟩ : ∃ y, tell a' ts x' = y := ⟨_, rfl⟩
  obtain ⟨z, hz⟩ : ∃ z, tell b' ts x' = z := ⟨_, rfl⟩
  rw [hy] at t1
  rw [hz] at t2
  have HY := Lib.hid hy
  have HZ := Lib.hid hz
  have HX : Hid ((0 : Int) ≤ x' ∧ x' ≤ 1099511627776) := Lib.hid ⟨by omega, by omega⟩
  have e1 : wrap64 (y - z) = a' - b' := by unfold wrap64; omega
  have e2 : wrap64 (a' - b') = a' - b' := by unfold wrap64; omega
  clear h hx hx2 hg hs hs2 hy hz t1 t2 a0 b0 x0
  go_enter Try.func6, Try.ntmps6
  go_wp2_with (first
    | (go_at_call 8; (with_reducible refine (HH.go _).mono ?_); rintro e w1 ⟨rfl, hb⟩; have HB := Lib.hid hb; clear hb)
    | (go_at_call 9; (with_reducible refine (HN.out _ HB.out).mono ?_); rintro e w2 ⟨b1, rfl, hc, hb⟩; have HC := Lib.hid hc; replace HB := Lib.hid (bTr HB.out hb); clear hc hb HN)
    | (go_at_call 9; (with_reducible refine (HN2.out _ HB.out).mono ?_); rintro e w2 ⟨b2, rfl, hc, hb⟩; have HC2 := Lib.hid hc; replace HC := Lib.hid (HC.out.below hb); replace HB := Lib.hid (bTr HB.out hb); clear hc hb HN2)
    | (go_at_call 12; (with_reducible refine (at_ok HC.out HG.out HS.out x' HX.out.1 HX.out.2 y HY.out).mono ?_); rintro e w4 ⟨rfl, hb⟩; replace HC2 := Lib.hid (HC2.out.below hb); replace HB := Lib.hid (bTr HB.out hb); clear hb HC)
    | (go_at_call 12; (with_reducible refine (at_ok HC2.out HG.out HS2.out x' HX.out.1 HX.out.2 z HZ.out).mono ?_); rintro e w4 ⟨rfl, hb⟩; replace HB := Lib.hid (bTr HB.out hb); clear hb))
  go_ret
  exact ⟨by simp, HB.out⟩

theorem oscStart_holds : Rows.OscStartSaid := oscStart_of (fun a b v ts x w _ _ _ _ h _ _ => by
  obtain ⟨p, c, rfl⟩ := h.slice
  rcases Nat.lt_or_ge 64 ts.length with h1 | h1
  · exact start_many p _ c a b x w h1
  · have ha : Start (a % 281474976710656) := ⟨by omega, by omega⟩
    have hb : Start (b % 281474976710656) := ⟨by omega, by omega⟩
    have he := newE_start (g := 1) (ts := ts) ha hb
    by_cases hx : newE (a % 281474976710656) 1 ts = 0
    · exact start_some p _ c a b _ _ x _ ts w h h1 (low48 a) (low48 b) (low40 x) ⟨by omega, by omega⟩ ⟨by omega, by omega⟩ ⟨by omega, by omega⟩ hx (he ▸ hx)
    · exact start_none p _ c a b _ _ x _ ts w h h1 (low48 a) (low48 b) rfl he.symm hx)

end Go.Proofs.Ytffjbngelapmmaa
