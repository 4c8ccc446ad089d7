/- For every list of gates and every row of times GatesStates answers true: Check answers as the reference's does, and State tells at each time what the reference tells, 0 where the list isn't right or the time is out of range. No condition. -/
import Derived.Test.YtpdfgdjomlogbaaFGatesStates
import Derived.Test.YtpdfgdjomlogbaaGtRef6
namespace Go.Proofs.Ytpdfgdjomlogbaa
open Go.RowKit Go.Joins

theorem lg_at {w : World} {q : Option Addr} {m d j : Nat} {xs : List Int} (h : LArg w (.slice q m d) xs) (hm : xs.length = m) (hj : j < m) : ∃ b o, q = some ⟨b, o, none⟩ ∧ w.cell? ⟨b, o + j, none⟩ = some (.int .i64 (xs.getD j 0)) := by
  rcases h.2 with ⟨e, _⟩ | ⟨h0, b, o, c, e, _, hr⟩
  · rw [e] at hm; simp at hm; omega
  · injection e with e1 e2 e3
    exact ⟨b, o, e1, (hr h0).2 j (by omega)⟩
theorem states_many (b c : Int) (p q : Option Addr) (n cap m d : Nat) (w : World) (h : 100 < n ∨ 60 < m) :
    Calls Try.prog 3 #[LV b c (.slice p n cap), .slice q m d] w fun e w' => e = .returned (.bool true) ∧ Below w.heap.size w w' := by
  have H1 := Lib.hid state_head
  have HL0 := Lib.hid (LB.new w b c (.slice p n cap))
  rcases Nat.lt_or_ge 100 n with h1 | h1
  · have d1 : decide ((100 : Int) < (n : Int)) = true := decide_eq_true (by omega)
    clear h h1
    go_enter Try.func3, Try.ntmps3
    go_wp2_with (go_at_call 10; (with_reducible refine (H1.out _).mono ?_); rintro e v1 ⟨rfl, hb⟩; have HL1 := Lib.hid (HL0.out.below hb); have HB1 := Lib.hid (bTr (bAl (bRef w) _) hb); obtain ⟨i1, j1, k1⟩ := HL1.out.cells; clear hb)
    go_ret
    exact ⟨rfl, HB1.out⟩
  · have d1 : decide ((100 : Int) < (n : Int)) = false := decide_eq_false (by omega)
    have d2 : decide ((60 : Int) < (m : Int)) = true := decide_eq_true (by omega)
    clear h h1
    go_enter Try.func3, Try.ntmps3
    go_wp2_with (go_at_call 10; (with_reducible refine (H1.out _).mono ?_); rintro e v1 ⟨rfl, hb⟩; have HL1 := Lib.hid (HL0.out.below hb); have HB1 := Lib.hid (bTr (bAl (bRef w) _) hb); obtain ⟨i1, j1, k1⟩ := HL1.out.cells; clear hb)
    go_ret
    exact ⟨rfl, HB1.out⟩
def TmRel (b c : Int) (sl : Value) (ts : List (Int × Int)) (m : Nat) (w : World) (kv : Value) (wr : World) : Prop := ∃ k : Nat, k ≤ m ∧ kv = .int .i64 (k : Int) ∧ LSt w b c sl ts wr
theorem state_none {b c x : Int} {ts : List (Int × Int)} (h : ¬ Tells b c ts x) : stateV b c ts x = 0 := by unfold stateV; rw [if_neg h]
theorem state_some {b c x : Int} {ts : List (Int × Int)} (h : Tells b c ts x) : stateV b c ts x = st ts (gone b c x) := by unfold stateV; rw [if_pos h]
set_option maxHeartbeats 4000000 in
theorem states_few (b c : Int) (p q : Option Addr) (n cap m d : Nat) (ts : List (Int × Int)) (xs : List Int) (w : World) (h : TArg w (.slice p n cap) ts) (hn : n = ts.length) (hx : LArg w (.slice q m d) xs) (hm : xs.length = m) (hn100 : n ≤ 100) (hm60 : m ≤ 60) (z : Int) (hz : chkV b c ts = z) :
    Calls Try.prog 3 #[LV b c (.slice p n cap), .slice q m d] w fun e w' => e = .returned (.bool true) ∧ Below w.heap.size w w' := by
  have H1 := Lib.hid state_head
  have ST0 := Lib.hid (LSt.new (b := b) (c := c) h)
  have HPL := Lib.hid (fun W sl' (h : TArg W sl' ts) => plain_any (b := b) (c := c) h (by omega))
  have HRC := Lib.hid (fun W sl' (h : TArg W sl' ts) => rcheck_any b c sl' ts W h)
  have HC := Lib.hid (fun W (h : TArg W (.slice p n cap) ts) => check_any b c (.slice p n cap) ts W h)
  rw [hz] at HRC HC
  have HS := Lib.hid (fun x W (h : TArg W (.slice p n cap) ts) => state_any b c (.slice p n cap) ts x W h)
  have d1 : decide ((100 : Int) < (n : Int)) = false := decide_eq_false (by omega)
  have d2 : decide ((60 : Int) < (m : Int)) = false := decide_eq_false (by omega)
  have HX := Lib.hid hx
  have HM := Lib.hid hm
  have HZ := Lib.hid hz
  have d3 : (z != z) = false := by simp
  clear h hn hx hm hz
  go_enter Try.func3, Try.ntmps3
  go_wp2_with (first
    | (go_at_call 10; (with_reducible refine (H1.out _).mono ?_); rintro e v1 ⟨rfl, hb⟩; have ST1 := Lib.hid (ST0.out.below hb); obtain ⟨i1, j1, k1, -⟩ := ST1.out; clear hb)
    | (go_at_call 12; (with_reducible refine (HPL.out _ _ ST1.out.targ).mono ?_); rintro e v2 ⟨sl2, rfl, ht2, hb⟩; have HT2 := Lib.hid ht2; have ST2 := Lib.hid (ST1.out.below hb); obtain ⟨i2, j2, k2, -⟩ := ST2.out; clear hb ht2)
    | (go_at_call 11; (with_reducible refine (HRC.out _ _ HT2.out).mono ?_); rintro e v3 ⟨rfl, hb⟩; have ST3 := Lib.hid (ST2.out.below hb); obtain ⟨i3, j3, k3, -⟩ := ST3.out; clear hb)
    | (go_at_call 13; (with_reducible refine (HC.out _ ST3.out.targ).mono ?_); rintro e v4 ⟨rfl, hb⟩; have ST4 := Lib.hid (ST3.out.below hb); obtain ⟨i4, j4, k4, -⟩ := ST4.out; clear hb))
  go_loopw [29] (fun kv wr => TmRel b c (.slice p n cap) ts m w kv wr) (fun kv _ => m - (intOf kv).toNat)
  case atStart => exact ⟨0, by omega, rfl, ST4.out⟩
  case round =>
    clear ST0 ST1 ST2 ST3 ST4 HT2 i1 j1 k1 i2 j2 k2 i3 j3 k3 i4 j4 k4
    obtain ⟨k, hk, rfl, hS⟩ := hrel
    have ST := Lib.hid hS
    obtain ⟨i0, j0, k0, -⟩ := hS
    rcases Nat.lt_or_ge k m with g | g
    · have hd : decide ((k : Int) < (m : Int)) = true := decide_eq_true (by omega)
      obtain ⟨bx, ox, rfl, hcell⟩ := lg_at (HX.out.below ST.out.bel) HM.out g
      generalize xs.getD k 0 = x at hcell
      have HI := Lib.hid (inside_any x)
      by_cases hz0 : z = 0
      · subst hz0
        by_cases hi : inT x
        · have ht : Tells b c ts x := ⟨hi, HZ.out⟩
          rw [decide_eq_true hi] at HI
          have HSt := Lib.hid (fun W sl' (h : TArg W sl' ts) => rstate_any (b := b) (c := c) (x := x) h (chk_good HZ.out) hi)
          have HSx := Lib.hid (HS.out x)
          rw [state_some ht] at HSx
          generalize st ts (gone b c x) = s at *
          have d4 : (s != s) = false := by simp
          clear hi ht
          go_wp2_with (first
            | (go_at_call 14; (with_reducible refine (HSx.out _ ST.out.targ).mono ?_); rintro e v1 ⟨rfl, hb⟩; have ST1 := Lib.hid (ST.out.below hb); obtain ⟨i1, j1, k1, -⟩ := ST1.out; clear hb)
            | (go_at_call 15; (with_reducible refine (HI.out.go _).mono ?_); rintro e w5 ⟨rfl, rfl⟩)
            | (go_at_call 12; (with_reducible refine (HPL.out _ _ ST1.out.targ).mono ?_); rintro e v2 ⟨sl2, rfl, ht2, hb⟩; have HT2 := Lib.hid ht2; have ST2 := Lib.hid (ST1.out.below hb); obtain ⟨i2, j2, k2, -⟩ := ST2.out; clear hb ht2)
            | (go_at_call 16; (with_reducible refine (HSt.out _ _ HT2.out).mono ?_); rintro e v3 ⟨rfl, hb⟩; have ST3 := Lib.hid (ST2.out.below hb); obtain ⟨i3, j3, k3, -⟩ := ST3.out; clear hb))
          go_roundw
          case rel => exact ⟨k + 1, by omega, by go_num, ST3.out⟩
          case measure => simp [intOf]; omega
        · rw [decide_eq_false hi] at HI
          have HSx := Lib.hid (HS.out x)
          rw [state_none (fun k => hi k.1)] at HSx
          clear hi
          go_wp2_with (first
            | (go_at_call 14; (with_reducible refine (HSx.out _ ST.out.targ).mono ?_); rintro e v1 ⟨rfl, hb⟩; have ST1 := Lib.hid (ST.out.below hb); obtain ⟨i1, j1, k1, -⟩ := ST1.out; clear hb)
            | (go_at_call 15; (with_reducible refine (HI.out.go _).mono ?_); rintro e w5 ⟨rfl, rfl⟩))
          go_roundw
          case rel => exact ⟨k + 1, by omega, by go_num, ST1.out⟩
          case measure => simp [intOf]; omega
      · have hz1 : (z != 0) = true := by simpa using hz0
        have HSx := Lib.hid (HS.out x)
        rw [state_none (fun k => hz0 (HZ.out.symm.trans k.2))] at HSx
        clear hz0
        go_wp2_with (first
            | (go_at_call 14; (with_reducible refine (HSx.out _ ST.out.targ).mono ?_); rintro e v1 ⟨rfl, hb⟩; have ST1 := Lib.hid (ST.out.below hb); obtain ⟨i1, j1, k1, -⟩ := ST1.out; clear hb))
        go_roundw
        case rel => exact ⟨k + 1, by omega, by go_num, ST1.out⟩
        case measure => simp [intOf]; omega
    · obtain rfl : k = m := by omega
      have hd : decide ((k : Int) < (k : Int)) = false := decide_eq_false (by omega)
      go_wp2_with fail
      go_ret
      exact ⟨rfl, ST.out.bel⟩

theorem gatesStates_holds : Rows.GatesStatesSaid := gatesStates_of (fun b c sl ts v xs w _ _ h hx => by
  obtain ⟨p, cap, rfl⟩ := h.slice
  obtain ⟨q, d, rfl⟩ := hx.slice
  by_cases hm : 100 < ts.length ∨ 60 < xs.length
  · exact states_many b c p q _ cap _ d w hm
  · exact states_few b c p q _ cap _ d ts xs w h rfl hx rfl (by omega) (by omega) _ rfl)

end Go.Proofs.Ytpdfgdjomlogbaa
