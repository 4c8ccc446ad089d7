/- MeterRuns where there is no meter. Written by gen_mrlaw.py. -/
import Derived.Test.YtjkgeoipkcjobaaFMeterRuns
import Derived.Test.YtjkgeoipkcjobaaMtLow
import Derived.Test.YtjkgeoipkcjobaaMtHead
import Derived.Test.YtjkgeoipkcjobaaMrCmp
namespace Go.Proofs.Ytjkgeoipkcjobaa
open Go.RowKit Go.Joins Go.Deep

theorem mr_many (r bu mo be : Int) (cp aw sh : Bool) (now : Int) (p : Option Addr) (n c : Nat) (w : World) (h : 80 < n) : Calls Try.prog 3 #[CV r bu mo be cp aw sh, .int .i64 now, .slice p n c] w fun e w' => e = .returned (.bool true) ∧ Below w.heap.size w w' := by
  have HH := Lib.hid head_ret
  have d : decide ((80 : Int) < (n : Int)) = true := decide_eq_true (by omega)
  clear h
  go_enter Try.func3, Try.ntmps3
  go_wp2_with (go_at_call 8; (with_reducible refine (HH.out _).mono ?_); rintro e w1 ⟨rfl, hb⟩; have HB := Lib.hid (bTr (bAl (bRef w) _) hb); clear hb)
  go_ret
  exact ⟨rfl, HB.out⟩
theorem mr_bad_a (r bu mo be : Int) (cp aw sh : Bool) (now : Int) (p : Option Addr) (n c : Nat) (w : World) (h : n ≤ 80) (ho : ¬ okC r bu mo be) : Calls Try.prog 3 #[CV r bu mo be cp aw sh, .int .i64 now, .slice p n c] w fun e w' => e = .returned (.bool true) ∧ Below w.heap.size w w' := by
  have HH := Lib.hid head_ret
  have HN := Lib.hid (fun W => new_conf r bu mo be now cp aw sh W ho)
  have hri := fun W => rright_any r bu mo be cp aw sh W
  rw [decide_eq_false ho] at hri
  have HRI := Lib.hid hri
  have K0 := Lib.hid (CB.new w r bu mo be cp aw sh)
  have d : decide ((80 : Int) < (n : Int)) = false := decide_eq_false (by omega)
  clear h hri ho
  go_enter Try.func3, Try.ntmps3
  go_wp2_with (first
    | (go_at_call 8; (with_reducible refine (HH.out _).mono ?_); rintro e w1 ⟨rfl, hb⟩; have HB := Lib.hid (bTr (bAl (bRef w) _) hb); have K1 := Lib.hid (K0.out.below hb); obtain ⟨k0, k1, k2, k3, k4, k5, k6, -⟩ := K1.out.cells; clear hb)
    | (go_at_call 9; (with_reducible refine (HN.out _).mono ?_); rintro e w2 ⟨rfl, hb⟩; have HB2 := Lib.hid (bTr HB.out hb); have K2 := Lib.hid (K1.out.below hb); obtain ⟨k0, k1, k2, k3, k4, k5, k6, -⟩ := K2.out.cells; clear hb; try dsimp only)
    | (go_at_call 10; (with_reducible refine (HRI.out _).mono ?_); rintro e w3 ⟨rfl, hb⟩; have HB3 := Lib.hid (bTr HB2.out hb); clear hb)
    | (go_at_call 11; (with_reducible refine (in_nil _ _ _ _).mono ?_); rintro e w4 ⟨rfl, hb⟩; have HB4 := Lib.hid (bTr HB3.out hb); clear hb; try dsimp only)
    | (go_at_call 12; (with_reducible refine (bits_nil _).mono ?_); rintro e w5 ⟨rfl, hb⟩; have HB5 := Lib.hid (bTr HB4.out hb); clear hb; try dsimp only)
    | (go_at_call 13; (with_reducible refine (open_nil _).mono ?_); rintro e w6 ⟨rfl, hb⟩; have HB6 := Lib.hid (bTr HB5.out hb); clear hb)
    | (go_at_call 14; (with_reducible refine (shut_nil _).mono ?_); rintro e w7 ⟨rfl, hb⟩; have HB7 := Lib.hid (bTr HB6.out hb); clear hb))
  go_ret
  exact ⟨rfl, HB7.out⟩
theorem mr_bad_b (r bu mo be : Int) (cp aw sh : Bool) (now : Int) (p : Option Addr) (n c : Nat) (w : World) (h : n ≤ 80) (ho : okC r bu mo be) (hn : now < 0) : Calls Try.prog 3 #[CV r bu mo be cp aw sh, .int .i64 now, .slice p n c] w fun e w' => e = .returned (.bool true) ∧ Below w.heap.size w w' := by
  have HH := Lib.hid head_ret
  have HN := Lib.hid (fun W => new_time r bu mo be now cp aw sh W ho (.inl hn))
  have hri := fun W => rright_any r bu mo be cp aw sh W
  rw [decide_eq_true ho] at hri
  have HRI := Lib.hid hri
  have K0 := Lib.hid (CB.new w r bu mo be cp aw sh)
  have d : decide ((80 : Int) < (n : Int)) = false := decide_eq_false (by omega)
  have d1 : decide (now < 0) = true := decide_eq_true hn
  clear h hri ho hn
  go_enter Try.func3, Try.ntmps3
  go_wp2_with (first
    | (go_at_call 8; (with_reducible refine (HH.out _).mono ?_); rintro e w1 ⟨rfl, hb⟩; have HB := Lib.hid (bTr (bAl (bRef w) _) hb); have K1 := Lib.hid (K0.out.below hb); obtain ⟨k0, k1, k2, k3, k4, k5, k6, -⟩ := K1.out.cells; clear hb)
    | (go_at_call 9; (with_reducible refine (HN.out _).mono ?_); rintro e w2 ⟨rfl, hb⟩; have HB2 := Lib.hid (bTr HB.out hb); have K2 := Lib.hid (K1.out.below hb); obtain ⟨k0, k1, k2, k3, k4, k5, k6, -⟩ := K2.out.cells; clear hb; try dsimp only)
    | (go_at_call 10; (with_reducible refine (HRI.out _).mono ?_); rintro e w3 ⟨rfl, hb⟩; have HB3 := Lib.hid (bTr HB2.out hb); clear hb)
    | (go_at_call 11; (with_reducible refine (in_nil _ _ _ _).mono ?_); rintro e w4 ⟨rfl, hb⟩; have HB4 := Lib.hid (bTr HB3.out hb); clear hb; try dsimp only)
    | (go_at_call 12; (with_reducible refine (bits_nil _).mono ?_); rintro e w5 ⟨rfl, hb⟩; have HB5 := Lib.hid (bTr HB4.out hb); clear hb; try dsimp only)
    | (go_at_call 13; (with_reducible refine (open_nil _).mono ?_); rintro e w6 ⟨rfl, hb⟩; have HB6 := Lib.hid (bTr HB5.out hb); clear hb)
    | (go_at_call 14; (with_reducible refine (shut_nil _).mono ?_); rintro e w7 ⟨rfl, hb⟩; have HB7 := Lib.hid (bTr HB6.out hb); clear hb))
  go_ret
  exact ⟨rfl, HB7.out⟩
theorem mr_bad_c (r bu mo be : Int) (cp aw sh : Bool) (now : Int) (p : Option Addr) (n c : Nat) (w : World) (h : n ≤ 80) (ho : okC r bu mo be) (hn : 1099511627776 < now) : Calls Try.prog 3 #[CV r bu mo be cp aw sh, .int .i64 now, .slice p n c] w fun e w' => e = .returned (.bool true) ∧ Below w.heap.size w w' := by
  have HH := Lib.hid head_ret
  have HN := Lib.hid (fun W => new_time r bu mo be now cp aw sh W ho (.inr hn))
  have hri := fun W => rright_any r bu mo be cp aw sh W
  rw [decide_eq_true ho] at hri
  have HRI := Lib.hid hri
  have K0 := Lib.hid (CB.new w r bu mo be cp aw sh)
  have d : decide ((80 : Int) < (n : Int)) = false := decide_eq_false (by omega)
  have d1 : decide (now < 0) = false := decide_eq_false (by omega)
  have d2 : decide (1099511627776 < now) = true := decide_eq_true hn
  clear h hri ho hn
  go_enter Try.func3, Try.ntmps3
  go_wp2_with (first
    | (go_at_call 8; (with_reducible refine (HH.out _).mono ?_); rintro e w1 ⟨rfl, hb⟩; have HB := Lib.hid (bTr (bAl (bRef w) _) hb); have K1 := Lib.hid (K0.out.below hb); obtain ⟨k0, k1, k2, k3, k4, k5, k6, -⟩ := K1.out.cells; clear hb)
    | (go_at_call 9; (with_reducible refine (HN.out _).mono ?_); rintro e w2 ⟨rfl, hb⟩; have HB2 := Lib.hid (bTr HB.out hb); have K2 := Lib.hid (K1.out.below hb); obtain ⟨k0, k1, k2, k3, k4, k5, k6, -⟩ := K2.out.cells; clear hb; try dsimp only)
    | (go_at_call 10; (with_reducible refine (HRI.out _).mono ?_); rintro e w3 ⟨rfl, hb⟩; have HB3 := Lib.hid (bTr HB2.out hb); clear hb)
    | (go_at_call 11; (with_reducible refine (in_nil _ _ _ _).mono ?_); rintro e w4 ⟨rfl, hb⟩; have HB4 := Lib.hid (bTr HB3.out hb); clear hb; try dsimp only)
    | (go_at_call 12; (with_reducible refine (bits_nil _).mono ?_); rintro e w5 ⟨rfl, hb⟩; have HB5 := Lib.hid (bTr HB4.out hb); clear hb; try dsimp only)
    | (go_at_call 13; (with_reducible refine (open_nil _).mono ?_); rintro e w6 ⟨rfl, hb⟩; have HB6 := Lib.hid (bTr HB5.out hb); clear hb)
    | (go_at_call 14; (with_reducible refine (shut_nil _).mono ?_); rintro e w7 ⟨rfl, hb⟩; have HB7 := Lib.hid (bTr HB6.out hb); clear hb))
  go_ret
  exact ⟨rfl, HB7.out⟩

end Go.Proofs.Ytjkgeoipkcjobaa
