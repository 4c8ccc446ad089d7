/- Package peer: Check, New; the law's own setup. -/
import Derived.Test.YtnfoimkiihfalaaPeIn
namespace Go.Proofs.Ytnfoimkiihfalaa
open Go.RowKit Go.Joins

/-- A setup that is right. -/
structure OkC (i p m l w s : Int) : Prop where
  i0 : 0 ≤ i
  i1 : i ≤ 281474976710655
  p0 : 0 ≤ p
  p1 : p ≤ 65535
  m0 : 0 ≤ m
  m1 : m ≤ 1099511627776
  l0 : 0 ≤ l
  l1 : l ≤ 1099511627776
  w0 : 1 ≤ w
  w1 : w ≤ 32
  s0 : 1 ≤ s
  s1 : s ≤ 100
theorem okc_iff (i p m l w s : Int) : OkC i p m l w s ↔ (0 ≤ i ∧ i ≤ 281474976710655 ∧ 0 ≤ p ∧ p ≤ 65535 ∧ 0 ≤ m ∧ m ≤ 1099511627776 ∧ 0 ≤ l ∧ l ≤ 1099511627776 ∧ 1 ≤ w ∧ w ≤ 32 ∧ 1 ≤ s ∧ s ≤ 100) :=
  ⟨fun ⟨a, b, c, d, e, f, g, h, i, j, k, l⟩ => ⟨a, b, c, d, e, f, g, h, i, j, k, l⟩, fun ⟨a, b, c, d, e, f, g, h, i, j, k, l⟩ => ⟨a, b, c, d, e, f, g, h, i, j, k, l⟩⟩
instance (i p m l w s : Int) : Decidable (OkC i p m l w s) := decidable_of_iff _ (okc_iff i p m l w s).symm
theorem conf_chk (i p m l w s : Int) (W : World) : Calls Try.prog 13 #[.agg #[.int .i64 i, .int .i64 p, .int .i64 m, .int .i64 l, .int .i64 w, .int .i64 s]] W fun e w' => e = .returned (.int .i64 (if OkC i p m l w s then 0 else 1)) ∧ Below W.heap.size W w' := by
  by_cases hi0 : i < 0
  · rw [if_neg (show ¬ OkC i p m l w s from fun k => by have := k.i0; omega)]
    have di0 : decide (i < 0) = true := decide_eq_true hi0
    clear hi0
    go_enter Try.func13, Try.ntmps13
    go_wp2_with fail
    go_ret
    exact ⟨rfl, bAl (bRef W) _⟩
  have di0 : decide (i < 0) = false := decide_eq_false hi0
  by_cases hi1 : 281474976710655 < i
  · rw [if_neg (show ¬ OkC i p m l w s from fun k => by have := k.i1; omega)]
    have di1 : decide (281474976710655 < i) = true := decide_eq_true hi1
    clear hi1
    go_enter Try.func13, Try.ntmps13
    go_wp2_with fail
    go_ret
    exact ⟨rfl, bAl (bRef W) _⟩
  have di1 : decide (281474976710655 < i) = false := decide_eq_false hi1
  by_cases hp0 : p < 0
  · rw [if_neg (show ¬ OkC i p m l w s from fun k => by have := k.p0; omega)]
    have dp0 : decide (p < 0) = true := decide_eq_true hp0
    clear hp0
    go_enter Try.func13, Try.ntmps13
    go_wp2_with fail
    go_ret
    exact ⟨rfl, bAl (bRef W) _⟩
  have dp0 : decide (p < 0) = false := decide_eq_false hp0
  by_cases hp1 : 65535 < p
  · rw [if_neg (show ¬ OkC i p m l w s from fun k => by have := k.p1; omega)]
    have dp1 : decide (65535 < p) = true := decide_eq_true hp1
    clear hp1
    go_enter Try.func13, Try.ntmps13
    go_wp2_with fail
    go_ret
    exact ⟨rfl, bAl (bRef W) _⟩
  have dp1 : decide (65535 < p) = false := decide_eq_false hp1
  by_cases hm0 : m < 0
  · rw [if_neg (show ¬ OkC i p m l w s from fun k => by have := k.m0; omega)]
    have dm0 : decide (m < 0) = true := decide_eq_true hm0
    clear hm0
    go_enter Try.func13, Try.ntmps13
    go_wp2_with fail
    go_ret
    exact ⟨rfl, bAl (bRef W) _⟩
  have dm0 : decide (m < 0) = false := decide_eq_false hm0
  by_cases hm1 : 1099511627776 < m
  · rw [if_neg (show ¬ OkC i p m l w s from fun k => by have := k.m1; omega)]
    have dm1 : decide (1099511627776 < m) = true := decide_eq_true hm1
    clear hm1
    go_enter Try.func13, Try.ntmps13
    go_wp2_with fail
    go_ret
    exact ⟨rfl, bAl (bRef W) _⟩
  have dm1 : decide (1099511627776 < m) = false := decide_eq_false hm1
  by_cases hl0 : l < 0
  · rw [if_neg (show ¬ OkC i p m l w s from fun k => by have := k.l0; omega)]
    have dl0 : decide (l < 0) = true := decide_eq_true hl0
    clear hl0
    go_enter Try.func13, Try.ntmps13
    go_wp2_with fail
    go_ret
    exact ⟨rfl, bAl (bRef W) _⟩
  have dl0 : decide (l < 0) = false := decide_eq_false hl0
  by_cases hl1 : 1099511627776 < l
  · rw [if_neg (show ¬ OkC i p m l w s from fun k => by have := k.l1; omega)]
    have dl1 : decide (1099511627776 < l) = true := decide_eq_true hl1
    clear hl1
    go_enter Try.func13, Try.ntmps13
    go_wp2_with fail
    go_ret
    exact ⟨rfl, bAl (bRef W) _⟩
  have dl1 : decide (1099511627776 < l) = false := decide_eq_false hl1
  by_cases hw0 : w < 1
  · rw [if_neg (show ¬ OkC i p m l w s from fun k => by have := k.w0; omega)]
    have dw0 : decide (w < 1) = true := decide_eq_true hw0
    clear hw0
    go_enter Try.func13, Try.ntmps13
    go_wp2_with fail
    go_ret
    exact ⟨rfl, bAl (bRef W) _⟩
  have dw0 : decide (w < 1) = false := decide_eq_false hw0
  by_cases hw1 : 32 < w
  · rw [if_neg (show ¬ OkC i p m l w s from fun k => by have := k.w1; omega)]
    have dw1 : decide (32 < w) = true := decide_eq_true hw1
    clear hw1
    go_enter Try.func13, Try.ntmps13
    go_wp2_with fail
    go_ret
    exact ⟨rfl, bAl (bRef W) _⟩
  have dw1 : decide (32 < w) = false := decide_eq_false hw1
  by_cases hs0 : s < 1
  · rw [if_neg (show ¬ OkC i p m l w s from fun k => by have := k.s0; omega)]
    have ds0 : decide (s < 1) = true := decide_eq_true hs0
    clear hs0
    go_enter Try.func13, Try.ntmps13
    go_wp2_with fail
    go_ret
    exact ⟨rfl, bAl (bRef W) _⟩
  have ds0 : decide (s < 1) = false := decide_eq_false hs0
  by_cases hs1 : 100 < s
  · rw [if_neg (show ¬ OkC i p m l w s from fun k => by have := k.s1; omega)]
    have ds1 : decide (100 < s) = true := decide_eq_true hs1
    clear hs1
    go_enter Try.func13, Try.ntmps13
    go_wp2_with fail
    go_ret
    exact ⟨rfl, bAl (bRef W) _⟩
  have ds1 : decide (100 < s) = false := decide_eq_false hs1
  rw [if_pos (show OkC i p m l w s from ⟨by omega, by omega, by omega, by omega, by omega, by omega, by omega, by omega, by omega, by omega, by omega, by omega⟩)]
  clear hi0 hi1 hp0 hp1 hm0 hm1 hl0 hl1 hw0 hw1 hs0 hs1
  go_enter Try.func13, Try.ntmps13
  go_wp2_with fail
  go_ret
  exact ⟨rfl, bAl (bRef W) _⟩

def PS.new (i p m l w s : Int) : PS := ⟨i, p, m, l, w, s, 0, 0, 0, 0, 0, [], 0, 0, 0⟩
theorem Try.builtNew (i p m l w s : Int) : Try.prog.built 74 [(0, .agg #[.int .i64 i, .int .i64 p, .int .i64 m, .int .i64 l, .int .i64 w, .int .i64 s])] = some (prow (PS.new i p m l w s) (.slice none 0 0)) := by kernel_rfl
theorem at_buildP {ops : Array Oper} {rest : List Oper} {d : Option Tmp} {t : TypeId} {st : String} {af : Array Edge} {a : Act} {w : World} {x : Array (Nat × Operand)} {Q : Exit → Act → World → Prop}
    (h : wpList Try.prog ops Q (⟨d, .build 74 x, t, st, af, none⟩ :: rest) a w) : wpList Try.prog ops Q (⟨d, .build 74 x, t, st, af, none⟩ :: rest) a w := h
theorem new_no (i p m l w s : Int) (W : World) (h : ¬ OkC i p m l w s) : Calls Try.prog 12 #[.agg #[.int .i64 i, .int .i64 p, .int .i64 m, .int .i64 l, .int .i64 w, .int .i64 s]] W fun e w' => e = .returned (.tuple #[.pointer none, .int .i64 1]) ∧ Below W.heap.size W w' := by
  have HC := conf_chk i p m l w s
  rw [if_neg h] at HC
  replace HC := Lib.hid HC
  clear h
  go_enter Try.func12, Try.ntmps12
  go_wp2_with (go_at_call 13; (with_reducible refine (HC.out _).mono ?_); rintro e w1 ⟨rfl, hb⟩; have HB := Lib.hid (bTr (bAl (bRef W) _) hb); clear hb)
  go_ret2
  exact ⟨rfl, HB.out⟩
set_option maxHeartbeats 1000000 in
theorem new_ok (i p m l w s : Int) (W : World) (h : OkC i p m l w s) : Calls Try.prog 12 #[.agg #[.int .i64 i, .int .i64 p, .int .i64 m, .int .i64 l, .int .i64 w, .int .i64 s]] W fun e w' => ∃ b, e = .returned (.tuple #[.pointer (some ⟨b, 0, none⟩), .int .i64 0]) ∧ W.heap.size ≤ b ∧ Pr w' b (PS.new i p m l w s) ∧ Below W.heap.size W w' := by
  have HC := conf_chk i p m l w s
  rw [if_pos h] at HC
  replace HC := Lib.hid HC
  clear h
  go_enter Try.func12, Try.ntmps12
  go_wp2_with (first
    | (go_at_call 13; (with_reducible refine (HC.out _).mono ?_); rintro e w1 ⟨rfl, hb⟩; have HB := Lib.hid (bTr (bAl (bRef W) _) hb); have q := (hb.block W.heap.size (by simp)).trans (heap_alloc_new W _); have q0 := cell_of_row _ _ 0 _ _ _ q; have q1 := cell_of_row _ _ 1 _ _ _ q; have q2 := cell_of_row _ _ 2 _ _ _ q; have q3 := cell_of_row _ _ 3 _ _ _ q; have q4 := cell_of_row _ _ 4 _ _ _ q; have q5 := cell_of_row _ _ 5 _ _ _ q; simp only [List.getElem?_toArray, List.getElem?_cons_zero, List.getElem?_cons_succ] at q0 q1 q2 q3 q4 q5; clear hb q)
    | ((with_reducible refine at_buildP ?_); refine wpList_buildG rfl _ _ rfl (prow (PS.new i p m l w s) (.slice none 0 0)) (by simp only [List.map_toArray, List.map_cons, List.map_nil]; exact Try.builtNew i p m l w s) ?_))
  go_ret2
  exact ⟨w1.heap.size, rfl, HB.out.size, ⟨_, ⟨heap_alloc_new w1 _, .inl ⟨rfl, rfl⟩⟩⟩, bTr HB.out (bAl (bRef w1) _)⟩
theorem Try.czConf : Try.prog.cellsOf 24 = 6 := by kernel_rfl
theorem conf_any (W : World) : Calls Try.prog 17 #[] W fun e w' => e = .returned (.agg #[.int .i64 5, .int .i64 1, .int .i64 1099511627776, .int .i64 1048576, .int .i64 4, .int .i64 3]) ∧ Below W.heap.size W w' := by
  go_enter Try.func17, Try.ntmps17
  go_wp2_with fail
  exact bodyPost_ret (v := .agg #[.int .i64 5, .int .i64 1, .int .i64 1099511627776, .int .i64 1048576, .int .i64 4, .int .i64 3]) (by simp [results, Try.results17, go_sem]) rfl ⟨rfl, bAl (bRef W) _⟩

end Go.Proofs.Ytnfoimkiihfalaa
