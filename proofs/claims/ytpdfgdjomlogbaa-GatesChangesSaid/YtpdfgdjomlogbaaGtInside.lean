/- inside; what Turn answers, in plain numbers. -/
import Derived.Test.YtpdfgdjomlogbaaGtLow
import Derived.Deep.RegionHeld3
namespace Go.Proofs.Ytpdfgdjomlogbaa
open Go.RowKit Go.Joins

theorem inside_any (x : Int) : RetQ 15 #[.int .i64 x] (.bool (decide (inT x))) := fun w => by
  by_cases h1 : -1099511627776 ≤ x
  · have d1 : decide (-1099511627776 ≤ x) = true := decide_eq_true h1
    by_cases h2 : x ≤ 2199023255552
    · have d2 : decide (x ≤ 2199023255552) = true := decide_eq_true h2
      rw [decide_eq_true (show inT x from ⟨h1, h2⟩)]
      clear h1 h2
      go_enter Try.func15, Try.ntmps15
      go_wp2_with fail
      go_ret
      exact ⟨rfl, rfl⟩
    · have d2 : decide (x ≤ 2199023255552) = false := decide_eq_false h2
      rw [decide_eq_false (show ¬ inT x from fun k => h2 k.2)]
      clear h1 h2
      go_enter Try.func15, Try.ntmps15
      go_wp2_with fail
      go_ret
      exact ⟨rfl, rfl⟩
  · have d1 : decide (-1099511627776 ≤ x) = false := decide_eq_false h1
    rw [decide_eq_false (show ¬ inT x from fun k => h1 k.1)]
    clear h1
    go_enter Try.func15, Try.ntmps15
    go_wp2_with fail
    go_ret
    exact ⟨rfl, rfl⟩
section
variable {b c : Int} {ts : List (Int × Int)} {x : Int}
theorem turnV_no (h : ¬ Tells b c ts x) : turnV b c ts x = (0, false) := by unfold turnV; rw [if_neg h]
theorem turnV_yes (h : Tells b c ts x) : ∃ n, turnV b c ts x = (n, true) ∧ x ≤ n ∧ n - x < c ∧ gone b c n = 0 := by
  have hg := chk_good h.2
  have hgb := gone_bd (b := b) x hg.c0
  unfold turnV
  rw [if_pos h]
  by_cases h0 : 0 < gone b c x
  · rw [if_pos h0]
    refine ⟨_, rfl, by omega, by omega, ?_⟩
    have e : x - b = (x - b) / c * c + gone b c x := by unfold gone; have := Int.mul_ediv_add_emod (x - b) c; rw [Int.mul_comm] at this; omega
    show (x + (c - gone b c x) - b) % c = 0
    rw [show x + (c - gone b c x) - b = ((x - b) / c + 1) * c by rw [Int.add_mul]; omega]
    exact Int.mul_emod_left _ _
  · rw [if_neg h0]
    exact ⟨_, rfl, by omega, by have := hg.c0; omega, by omega⟩
theorem gone_base (b c : Int) : gone b c b = 0 := by unfold gone; rw [Int.sub_self]; exact Int.zero_emod _
theorem state_eq {y : Int} (h1 : Tells b c ts x) (h2 : Tells b c ts y) (he : gone b c x = gone b c y) : stateV b c ts x = stateV b c ts y := by
  unfold stateV
  rw [if_pos h1, if_pos h2, he]
end
/-- A list in its box, with its slots. -/
def LSt (w : World) (b c : Int) (sl : Value) (ts : List (Int × Int)) (W : World) : Prop :=
  W.cell? ⟨w.heap.size, 0, none⟩ = some (.int .i64 b) ∧ W.cell? ⟨w.heap.size, 1, none⟩ = some (.int .i64 c) ∧ W.cell? ⟨w.heap.size, 2, none⟩ = some sl ∧ TArg W sl ts ∧ Below w.heap.size w W ∧ w.heap.size < W.heap.size
theorem LSt.below {w W W' : World} {b c : Int} {sl : Value} {ts : List (Int × Int)} (h : LSt w b c sl ts W) (hb : Below W.heap.size W W') : LSt w b c sl ts W' := by
  obtain ⟨h0, h1, h2, h6, h7, h8⟩ := h
  exact ⟨(hb.cell h8).trans h0, (hb.cell h8).trans h1, (hb.cell h8).trans h2, h6.below hb, bTr h7 hb, Nat.lt_of_lt_of_le h8 hb.size⟩
theorem LSt.mk {w W : World} {b c : Int} {sl : Value} {ts : List (Int × Int)} (h1 : LB W w.heap.size b c sl) (h3 : TArg W sl ts) (h4 : Below w.heap.size w W) : LSt w b c sl ts W :=
  ⟨h1.cells.1, h1.cells.2.1, h1.cells.2.2, h3, h4, lt_of_heap h1⟩
theorem LSt.targ {w W : World} {b c : Int} {sl : Value} {ts : List (Int × Int)} (h : LSt w b c sl ts W) : TArg W sl ts := h.2.2.2.1
theorem LSt.bel {w W : World} {b c : Int} {sl : Value} {ts : List (Int × Int)} (h : LSt w b c sl ts W) : Below w.heap.size w W := h.2.2.2.2.1
theorem LSt.new {w : World} {b c : Int} {sl : Value} {ts : List (Int × Int)} (h : TArg w sl ts) : LSt w b c sl ts (w.alloc (BO b c sl)) := LSt.mk (LB.new w b c sl) (h.below (bAl (bRef w) _)) (bAl (bRef w) _)

end Go.Proofs.Ytpdfgdjomlogbaa
