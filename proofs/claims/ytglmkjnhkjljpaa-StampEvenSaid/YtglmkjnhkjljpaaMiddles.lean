/- StampMiddles. -/
import Derived.Test.YtglmkjnhkjljpaaRMiddle
namespace Go.Proofs.Ytglmkjnhkjljpaa
open Go.RowKit Go.Joins

theorem mids_long (p : Option Addr) (n c : Nat) (lo hi : Int) (hn : 60 < n) (w : World) :
    Calls Try.prog 6 #[.slice p n c, .int .i64 lo, .int .i64 hi] w fun e w' => e = .returned (.bool true) ∧ Below w.heap.size w w' := by
  have HH := head_ret
  go_enter Try.func6, Try.ntmps6
  go_wp2_with (go_at_call 10; (with_reducible refine (HH.go _).mono ?_); rintro e w1 ⟨rfl, hb⟩)
  go_ret
  exact ⟨rfl, hb⟩

def CopyRel (w0 : World) (xs : List Int) (v iv : Value) (wr : World) : Prop :=
  ∃ k : Nat, k ≤ xs.length ∧ iv = .int .i64 (k : Int) ∧ OwnS w0 wr v (xs.take k)
theorem take_snoc {xs : List Int} {k : Nat} (h : k < xs.length) : xs.take (k + 1) = xs.take k ++ [xs.getD k 0] := by
  rw [List.take_succ_eq_append_getElem h]; simp [List.getD_eq_getElem?_getD, h]
theorem copy_go {w0 wr : World} {xs : List Int} {k : Nat} {x ki : Int} {v : Value} (hk : k < xs.length) (hx : x = xs.getD k 0) (hki : ki = (k : Int) + 1) (h : OwnS w0 wr v (xs.take k ++ [x])) : CopyRel w0 xs v (.int .i64 ki) wr := by
  subst hki hx
  exact ⟨k + 1, by omega, by go_num, by rw [take_snoc hk]; exact h⟩

def IdxRel (n : Nat) (iv : Value) : Prop := ∃ i : Nat, i ≤ n ∧ iv = .int .i64 (i : Int)
theorem clamp_val (s lo hi : Int) : max (min s hi) lo = if hi < s then (if hi < lo then lo else hi) else (if s < lo then lo else s) := by
  by_cases h1 : hi < s
  · rw [if_pos h1]
    by_cases h2 : hi < lo
    · rw [if_pos h2]; omega
    · rw [if_neg h2]; omega
  · rw [if_neg h1]
    by_cases h2 : s < lo
    · rw [if_pos h2]; omega
    · rw [if_neg h2]; omega

theorem mids_empty (p : Option Addr) (c : Nat) (lo hi : Int) (w : World) :
    Calls Try.prog 6 #[.slice p 0 c, .int .i64 lo, .int .i64 hi] w fun e w' => e = .returned (.bool true) ∧ Below w.heap.size w w' := by
  have HH := head_ret
  go_enter Try.func6, Try.ntmps6
  go_wp2_with (go_at_call 10; (with_reducible refine (HH.go _).mono ?_); rintro e w1 ⟨rfl, hb⟩; have HB := Lib.hid hb; clear hb)
  go_loopw [7, 26] (fun v iv wr => v = .slice (some ⟨w1.heap.size, 0, none⟩) 0 0 ∧ iv = .int .i64 0 ∧ Below w.heap.size w wr) (fun _ _ _ => 0)
  case atStart => exact ⟨rfl, rfl, bAl HB.out _⟩
  case round =>
    clear HB
    obtain ⟨rfl, rfl, hb⟩ := hrel
    have HB := Lib.hid hb
    clear hb
    go_wp2_with (first
      | (go_at_call 22; (with_reducible refine (middle_none _ _ _).mono ?_); rintro e w2 ⟨rfl, hb⟩; replace HB := Lib.hid (bTr' HB.out hb); clear hb)
      | (go_at_call 23; (with_reducible refine (rmiddle_none _ _ _).mono ?_); rintro e w3 ⟨rfl, hb⟩; replace HB := Lib.hid (bTr' HB.out hb); clear hb))
    go_loop [55] (fun iv => IdxRel 0 iv) (fun _ => 0)
    case atStart => exact ⟨0, by omega, rfl⟩
    case round =>
      obtain ⟨i, hi0, rfl⟩ := hrel
      obtain rfl : i = 0 := by omega
      go_wp2_with fail
      go_ret
      exact ⟨rfl, HB.out⟩

set_option maxHeartbeats 4000000 in
theorem mids_some (b o n c : Nat) (lo hi : Int) (xs : List Int) (w : World) (h : LArg w (.slice (some ⟨b, o, none⟩) n c) xs) (hr : RdL w b o xs) (hn : xs.length = n) (h0 : 0 < n) (hl : n ≤ 60) :
    Calls Try.prog 6 #[.slice (some ⟨b, o, none⟩) n c, .int .i64 lo, .int .i64 hi] w fun e w' => e = .returned (.bool true) ∧ Below w.heap.size w w' := by
  have HH := head_ret
  have HN := Lib.hid hn
  have HR := Lib.hid hr
  have H := Lib.hid h
  have L1 := Lib.hid (show xs.length ≤ 1000000 by omega)
  clear h hn hr
  go_enter Try.func6, Try.ntmps6
  go_wp2_with (go_at_call 10; (with_reducible refine (HH.go _).mono ?_); rintro e w1 ⟨rfl, hb⟩; have HB := Lib.hid hb; replace H := Lib.hid (H.out.below hb); replace HR := Lib.hid (HR.out.below hb); clear hb)
  go_loopw [7, 26] (fun v iv wr => CopyRel w1 xs v iv wr) (fun _ iv _ => n - (intOf iv).toNat)
  case atStart => exact ⟨0, by omega, rfl, OwnS.start w1⟩
  case round =>
    obtain ⟨k, hk, rfl, hown⟩ := hrel
    have HO := Lib.hid hown
    rw [HN.out] at hk
    clear hown
    rcases Nat.lt_or_ge k n with g | g
    · have hd : decide ((k : Int) < (n : Int)) = true := decide_eq_true (by omega)
      have hcell := ((HR.out.below HO.out.bel) (by rw [HN.out]; exact h0)).2 k (by rw [HN.out]; exact g)
      have hin := in_getD H.out.1 k
      obtain ⟨x, hx⟩ : ∃ x, x = xs.getD k 0 := ⟨_, rfl⟩
      rw [← hx] at hcell hin
      have HX := Lib.hid hx
      have HIN := Lib.hid hin
      have hl4 : (xs.take k).length + [x].length ≤ 1000000 := by rw [List.length_take, HN.out]; simp; omega
      have HL4 := Lib.hid hl4
      clear hx hin hl4
      go_wp2_with (at_builtin; refine wpList_appS rfl _ _ rfl w1 _ u7 (.slice (some ⟨wr.heap.size, 0, none⟩) 1 1) _ [x] rfl rfl (HO.out.alloc _) (LArg.one wr x HIN.out _) HL4.out ?_; intro v3 w3 hown)
      go_roundw
      case rel => exact copy_go (by rw [HN.out]; exact g) HX.out rfl hown
      case measure => simp [intOf]; omega
    · obtain rfl : k = n := by omega
      have htake : xs.take k = xs := by rw [← HN.out, List.take_length]
      rw [htake] at HO
      obtain ⟨g7, c7, hv, hc7, _, _⟩ := HO.out.form
      rw [HN.out] at hv hc7
      subst hv
      obtain ⟨mx, hmx⟩ : ∃ mx, (if xs = [] then 0 else Med.med xs) = mx := ⟨_, rfl⟩
      obtain ⟨my, hmy⟩ : ∃ my, (if xs = [] then (5 : Int) else 0) = my := ⟨_, rfl⟩
      have HMX := Lib.hid hmx
      have HMY := Lib.hid hmy
      clear htake hmx hmy
      go_wp2_with (first
        | (go_at_call 22; (with_reducible refine (middle_any HO.out.arg L1.out mx my HMX.out HMY.out).mono ?_); rintro e w2 ⟨rfl, hb⟩; replace HO := Lib.hid (HO.out.below hb); clear hb)
        | (go_at_call 23; (with_reducible refine (rmiddle_any (H.out.below HO.out.bel) L1.out mx my HMX.out HMY.out).mono ?_); rintro e w3 ⟨rfl, hb⟩; replace HO := Lib.hid (HO.out.below hb); clear hb))
      go_loop [55] (fun iv => IdxRel k iv) (fun iv => k - (intOf iv).toNat)
      case atStart => exact ⟨0, by omega, rfl⟩
      case round =>
        obtain ⟨i, hi0, rfl⟩ := hrel
        rcases Nat.lt_or_ge i k with g2 | g2
        · have hd : decide ((i : Int) < (k : Int)) = true := decide_eq_true (by omega)
          have hcell := ((HR.out.below HO.out.bel) (by rw [HN.out]; exact h0)).2 i (by rw [HN.out]; exact g2)
          have hcell2 := HO.out.cell (k := i) (by rw [HN.out]; exact g2)
          obtain ⟨x, hx⟩ : ∃ x, x = xs.getD i 0 := ⟨_, rfl⟩
          rw [← hx] at hcell hcell2
          clear hx
          have HC := clamp_ret x lo hi
          rw [clamp_val] at HC
          by_cases t1 : hi < x
          · have d1 : decide (hi < x) = true := decide_eq_true t1
            rw [if_pos t1] at HC
            by_cases t2 : hi < lo
            · have d2 : decide (hi < lo) = true := decide_eq_true t2
              rw [if_pos t2] at HC
              go_wp2_with (go_at_call 24; (with_reducible refine (HC.go _).mono ?_); rintro e wx ⟨rfl, rfl⟩)
              go_round
              case rel => exact ⟨i + 1, by omega, by go_num⟩
              case measure => simp [intOf]; omega
            · have d2 : decide (hi < lo) = false := decide_eq_false t2
              rw [if_neg t2] at HC
              go_wp2_with (go_at_call 24; (with_reducible refine (HC.go _).mono ?_); rintro e wx ⟨rfl, rfl⟩)
              go_round
              case rel => exact ⟨i + 1, by omega, by go_num⟩
              case measure => simp [intOf]; omega
          · have d1 : decide (hi < x) = false := decide_eq_false t1
            rw [if_neg t1] at HC
            by_cases t2 : x < lo
            · have d2 : decide (x < lo) = true := decide_eq_true t2
              rw [if_pos t2] at HC
              go_wp2_with (go_at_call 24; (with_reducible refine (HC.go _).mono ?_); rintro e wx ⟨rfl, rfl⟩)
              go_round
              case rel => exact ⟨i + 1, by omega, by go_num⟩
              case measure => simp [intOf]; omega
            · have d2 : decide (x < lo) = false := decide_eq_false t2
              rw [if_neg t2] at HC
              go_wp2_with (go_at_call 24; (with_reducible refine (HC.go _).mono ?_); rintro e wx ⟨rfl, rfl⟩)
              go_round
              case rel => exact ⟨i + 1, by omega, by go_num⟩
              case measure => simp [intOf]; omega
        · obtain rfl : i = k := by omega
          go_wp2_with fail
          go_ret
          exact ⟨rfl, bTr' HB.out HO.out.bel⟩

theorem mids_walk (v : Value) (xs : List Int) (a b : Int) (w : World) (h : LArg w v xs) (_ : -9223372036854775808 ≤ a) (_ : a < 9223372036854775808) (_ : -9223372036854775808 ≤ b) (_ : b < 9223372036854775808) :
    Calls Try.prog 6 #[v, .int .i64 a, .int .i64 b] w fun e w' => e = .returned (.bool true) ∧ Below w.heap.size w w' := by
  rcases Nat.lt_or_ge 60 xs.length with hn | hn
  · obtain ⟨p, c, rfl⟩ := h.slice
    exact mids_long p _ c a b hn w
  have h' := h
  rcases h'.2 with ⟨rfl, p, c, rfl, _⟩ | ⟨h0, bb, o, c, rfl, hc, hr⟩
  · exact mids_empty p c a b w
  · exact mids_some bb o _ c a b xs w h hr rfl h0 hn

end Go.Proofs.Ytglmkjnhkjljpaa
