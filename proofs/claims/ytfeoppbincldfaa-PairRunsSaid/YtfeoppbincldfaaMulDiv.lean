/- The product of two ints by a third one, rounded, by package wide: the walk, over what is called. -/
import Derived.Test.YtfeoppbincldfaaSigned
namespace Go.Proofs.Ytfeoppbincldfaa
open Go.RowKit

/-- The call returns v, and leaves what there was as it was. -/
def Ret (f : FuncId) (args : Array Value) (v : Value) : Prop := ∀ w : World, Calls Try.prog f args w fun e w' => e = .returned v ∧ Below w.heap.size w w'
/-- The call returns v, and nothing else. -/
def RetQ (f : FuncId) (args : Array Value) (v : Value) : Prop := ∀ w : World, Calls Try.prog f args w fun e w' => e = .returned v ∧ w = w'

theorem Ret.go {f : FuncId} {args : Array Value} {v : Value} (h : Ret f args v) (w : World) : Calls Try.prog f args w fun e w' => e = .returned v ∧ Below w.heap.size w w' := h w
theorem RetQ.go {f : FuncId} {args : Array Value} {v : Value} (h : RetQ f args v) (w : World) : Calls Try.prog f args w fun e w' => e = .returned v ∧ w = w' := h w
theorem RetQ.ret {f : FuncId} {args : Array Value} {v : Value} (h : RetQ f args v) : Ret f args v := fun w => (h w).mono fun _ _ ⟨h1, h2⟩ => ⟨h1, h2 ▸ bRef w⟩
theorem Ret.to {f : FuncId} {args : Array Value} {u v : Value} (h : Ret f args u) (e : u = v) : Ret f args v := e ▸ h

theorem bcell {W w1 : World} (hb : Below W.heap.size W w1) : (∀ b o, b < W.heap.size → w1.cell? ⟨b, o, none⟩ = W.cell? ⟨b, o, none⟩) ∧ (∀ b o, b < W.heap.size → w1.frozen? ⟨b, o, none⟩ = W.frozen? ⟨b, o, none⟩) :=
  ⟨fun b o h => hb.cell (p := ⟨b, o, none⟩) h, fun b o h => hb.frozen (p := ⟨b, o, none⟩) h⟩

/-- A variable of two words at block b. -/
def Box2 (w : World) (b : Nat) (x y : Value) : Prop :=
  b < w.heap.size ∧ w.cell? ⟨b, 0, none⟩ = some x ∧ w.cell? ⟨b, 1, none⟩ = some y ∧ w.frozen? ⟨b, 0, none⟩ = false ∧ w.frozen? ⟨b, 1, none⟩ = false
theorem Box2.below {w w' : World} {b : Nat} {x y : Value} (h : Box2 w b x y) (hb : Below w.heap.size w w') : Box2 w' b x y :=
  ⟨Nat.lt_of_lt_of_le h.1 hb.size, (hb.cell h.1).trans h.2.1, (hb.cell h.1).trans h.2.2.1, (hb.frozen h.1).trans h.2.2.2.1, (hb.frozen h.1).trans h.2.2.2.2⟩
theorem Box2.drew {w : World} {b : Nat} {x y : Value} (h : Box2 w b x y) : Box2 w.drew b x y := h
theorem Box2.drewN {w : World} {b : Nat} {x y : Value} (h : Box2 w b x y) (n : Nat) : Box2 (w.drewN n) b x y := h
theorem Box2.new (w : World) (x y : Value) (t : TypeId) : Box2 (w.alloc (.cells #[x, y] t)) w.heap.size x y := by
  refine ⟨by simp, ?_, ?_, ?_, ?_⟩ <;> simp

theorem wMulDiv_arg (a b c round : Int) (h : round < 0 ∨ 2 < round) (w : World) :
    Calls Try.prog 89 #[.int .i64 a, .int .i64 b, .int .i64 c, .int .i64 round] w fun e w' =>
      e = .returned (.tuple #[.int .i64 0, .int .i64 1]) ∧ Below w.heap.size w w' := by
  have e0 : (round != 0) = true := by rw [bne_iff_ne]; omega
  have e1 : (round != 1) = true := by rw [bne_iff_ne]; omega
  have e2 : (round != 2) = true := by rw [bne_iff_ne]; omega
  go_enter Try.func89, Try.ntmps89
  go_wp2_with fail
  go_ret2
  exact ⟨rfl, bRef w⟩

set_option maxHeartbeats 1000000 in
theorem wMulDiv_no (a b c A B C round P1 P0 Q1 Q0 L N E : Int) (below : Bool) (h : 0 ≤ round ∧ round ≤ 2)
    (HSa : RetQ 102 #[.int .i64 a] (.int .u64 A)) (HSb : RetQ 102 #[.int .i64 b] (.int .u64 B)) (HSc : RetQ 102 #[.int .i64 c] (.int .u64 C))
    (HM : Ret 103 #[.int .u64 A, .int .u64 B] (.agg #[.int .u64 P1, .int .u64 P0]))
    (HD : Ret 104 #[.agg #[.int .u64 P1, .int .u64 P0], .int .u64 C] (.tuple #[.agg #[.int .u64 Q1, .int .u64 Q0], .int .u64 L, .int .i64 0]))
    (HB : RetQ 105 #[.int .i64 a, .int .i64 b, .int .i64 c] (.bool below))
    (HG : Ret 106 #[.agg #[.int .u64 Q1, .int .u64 Q0], .int .u64 L, .int .u64 C, .bool below, .int .i64 round] (.bool false))
    (HS : Ret 109 #[.agg #[.int .u64 Q1, .int .u64 Q0], .bool below] (.tuple #[.int .i64 N, .int .i64 E])) (w : World) :
    Calls Try.prog 89 #[.int .i64 a, .int .i64 b, .int .i64 c, .int .i64 round] w fun e w' =>
      e = .returned (.tuple #[.int .i64 N, .int .i64 E]) ∧ Below w.heap.size w w' := by
  have hr : round = 0 ∨ round = 1 ∨ round = 2 := by omega
  rcases hr with rfl | rfl | rfl
  all_goals
    go_enter Try.func89, Try.ntmps89
    go_wp2_with (first
      | (go_at_call 102; (with_reducible refine (HSa.go _).mono ?_); rintro e w' ⟨rfl, rfl⟩)
      | (go_at_call 102; (with_reducible refine (HSb.go _).mono ?_); rintro e w' ⟨rfl, rfl⟩)
      | (go_at_call 102; (with_reducible refine (HSc.go _).mono ?_); rintro e w' ⟨rfl, rfl⟩)
      | (go_at_call 103; (with_reducible refine (HM.go _).mono ?_); rintro e w1 ⟨rfl, hb1⟩)
      | (go_at_call 104; (with_reducible refine (HD.go _).mono ?_); rintro e w2 ⟨rfl, hb2⟩)
      | (go_at_call 105; (with_reducible refine (HB.go _).mono ?_); rintro e w' ⟨rfl, rfl⟩)
      | (go_at_call 106; (with_reducible refine (HG.go _).mono ?_); rintro e w3 ⟨rfl, hb3⟩; obtain ⟨hc3, hf3⟩ := bcell hb3; have hz3 := hb3.size)
      | (go_at_call 109; (with_reducible refine (HS.go _).mono ?_); rintro e w6 ⟨rfl, hb6⟩))
    go_ret2
    exact ⟨rfl, bTr (bTr (bAl (bTr hb1 hb2) _) hb3) hb6⟩

set_option maxHeartbeats 1000000 in
theorem wMulDiv_yes (a b c A B C round P1 P0 Q1 Q0 L N E R1 R0 E1 : Int) (below : Bool) (h : 0 ≤ round ∧ round ≤ 2)
    (HSa : RetQ 102 #[.int .i64 a] (.int .u64 A)) (HSb : RetQ 102 #[.int .i64 b] (.int .u64 B)) (HSc : RetQ 102 #[.int .i64 c] (.int .u64 C))
    (HM : Ret 103 #[.int .u64 A, .int .u64 B] (.agg #[.int .u64 P1, .int .u64 P0]))
    (HD : Ret 104 #[.agg #[.int .u64 P1, .int .u64 P0], .int .u64 C] (.tuple #[.agg #[.int .u64 Q1, .int .u64 Q0], .int .u64 L, .int .i64 0]))
    (HB : RetQ 105 #[.int .i64 a, .int .i64 b, .int .i64 c] (.bool below))
    (HG : Ret 106 #[.agg #[.int .u64 Q1, .int .u64 Q0], .int .u64 L, .int .u64 C, .bool below, .int .i64 round] (.bool true))
    (HO : Ret 108 #[.int .u64 1] (.agg #[.int .u64 0, .int .u64 1]))
    (HA : Ret 107 #[.agg #[.int .u64 Q1, .int .u64 Q0], .agg #[.int .u64 0, .int .u64 1]] (.tuple #[.agg #[.int .u64 R1, .int .u64 R0], .int .i64 E1]))
    (HS : Ret 109 #[.agg #[.int .u64 R1, .int .u64 R0], .bool below] (.tuple #[.int .i64 N, .int .i64 E])) (w : World) :
    Calls Try.prog 89 #[.int .i64 a, .int .i64 b, .int .i64 c, .int .i64 round] w fun e w' =>
      e = .returned (.tuple #[.int .i64 N, .int .i64 E]) ∧ Below w.heap.size w w' := by
  have hr : round = 0 ∨ round = 1 ∨ round = 2 := by omega
  rcases hr with rfl | rfl | rfl
  all_goals
    go_enter Try.func89, Try.ntmps89
    go_wp2_with (first
      | (go_at_call 102; (with_reducible refine (HSa.go _).mono ?_); rintro e w' ⟨rfl, rfl⟩)
      | (go_at_call 102; (with_reducible refine (HSb.go _).mono ?_); rintro e w' ⟨rfl, rfl⟩)
      | (go_at_call 102; (with_reducible refine (HSc.go _).mono ?_); rintro e w' ⟨rfl, rfl⟩)
      | (go_at_call 103; (with_reducible refine (HM.go _).mono ?_); rintro e w1 ⟨rfl, hb1⟩)
      | (go_at_call 104; (with_reducible refine (HD.go _).mono ?_); rintro e w2 ⟨rfl, hb2⟩)
      | (go_at_call 105; (with_reducible refine (HB.go _).mono ?_); rintro e w' ⟨rfl, rfl⟩)
      | (go_at_call 106; (with_reducible refine (HG.go _).mono ?_); rintro e w3 ⟨rfl, hb3⟩; have B3 := (Box2.new w2 (.int .u64 Q1) (.int .u64 Q0) _).below hb3; obtain ⟨z3, c3, d3, f3, g3⟩ := id B3))
    go_region_with (first | (go_at_call 108; (with_reducible refine (HO.go _).mono ?_); rintro e w4 ⟨rfl, hb4⟩; have B4 := B3.drew.below hb4; obtain ⟨z4, c4, d4, f4, g4⟩ := id B4) | (go_at_call 107; (with_reducible refine (HA.go _).mono ?_); rintro e w5 ⟨rfl, hb5⟩; have B5 := B4.below hb5; obtain ⟨z5, c5, d5, f5, g5⟩ := id B5))
    all_goals
      go_wp2_with (go_at_call 109; (with_reducible refine (HS.go _).mono ?_); rintro e w6 ⟨rfl, hb6⟩)
      go_ret2
      have hz : w.heap.size ≤ w2.heap.size := Nat.le_trans hb1.size hb2.size
      have b5 : Below w.heap.size w w5 := bTr (bTr (bTr (bAl (bTr hb1 hb2) _) hb3).drew hb4) hb5
      exact ⟨rfl, bTr (bSet (bSet b5 _ hz _) _ hz _) hb6⟩

end Go.Proofs.Ytfeoppbincldfaa
