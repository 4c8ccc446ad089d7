/- Check of a message, in whatever world behind; a difference that fits. -/
import Derived.Test.YtfeoppbincldfaaPaMW
namespace Go.Proofs.Ytfeoppbincldfaa
open Go.RowKit Go.Joins

/-- Check of this message answers x, in whatever world behind. -/
def ChkTo (w : World) (m : Mg) (v : Value) (x : Nat) : Prop := ∀ W, Below w.heap.size w W → Calls Try.prog 55 #[.agg (MC m v)] W fun e w' => e = .returned (.int .i64 (x : Int)) ∧ Below W.heap.size W w'
theorem ChkTo.of {w : World} {m : Mg} {v : Value} (hw : m.Wf) (hA : LArg w v m.path) (hl : m.path.length ≤ 140737488355328) : ChkTo w m v m.chk := fun W hb => check_any m v W hw (hA.below hb) hl
theorem ChkTo.go {w : World} {m : Mg} {v : Value} {x : Nat} (h : ChkTo w m v x) (W : World) (hW : Below w.heap.size w W) : Calls Try.prog 55 #[.agg (MC m v)] W fun e w' => e = .returned (.int .i64 (x : Int)) ∧ Below W.heap.size W w' := h W hW
theorem new_drewN (w : World) (o : Obj) (n : Nat) : ((w.alloc o).drewN n).heap[w.heap.size]? = some o := heap_alloc_new w o
theorem ChkTo.mono {w w1 : World} {m : Mg} {v : Value} {x : Nat} (h : ChkTo w m v x) (hb : Below w.heap.size w w1) : ChkTo w1 m v x := fun W hW => h W (bTr hb hW)
theorem subq_go (s d v : Int) (b1 b2 : Bool) (hv : wrap64 (s - d) = v) (h1 : decide (s < v) = b1) (h2 : decide (d < 0) = b2) (w : World) :
    Calls Try.prog 46 #[.int .i64 s, .int .i64 d] w fun e w' => e = .returned (.tuple #[.int .i64 (if (b1 != b2) = true then 0 else v), .int .i64 (if (b1 != b2) = true then 10 else 0)]) ∧ w' = w := by
  cases b1 <;> cases b2
  all_goals
    go_enter Try.func46, Try.ntmps46
    go_wp2_with fail
    go_ret2
    exact ⟨rfl, rfl⟩
/-- A difference that fits, and nothing else. -/
theorem subq {a b : Int} (ha : In64 a) (hb : In64 b) (h : In64 (a - b)) (w : World) : Calls Try.prog 46 #[.int .i64 a, .int .i64 b] w fun e w' => e = .returned (.tuple #[.int .i64 (a - b), .int .i64 0]) ∧ w' = w := by
  unfold In64 at ha hb h
  have H := subq_go a b _ _ _ rfl rfl rfl w
  have e2 : wrap64 (a - b) = a - b := by unfold wrap64; omega
  have e : (decide (a < a - b) != decide (b < 0)) = false := by
    rw [bne_eq_false_iff_eq, decide_eq_decide]; omega
  rw [e2, e] at H
  exact H
end Go.Proofs.Ytfeoppbincldfaa
