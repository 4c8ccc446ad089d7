/- Package gates: the small ones; the check of a list; where a time is in a cycle. -/
import Derived.Test.YtllmfkodgalklaaGtMem
namespace Go.Proofs.Ytllmfkodgalklaa
open Go.RowKit Go.Joins

abbrev LV (b c : Int) (sl : Value) : Value := .agg #[.int .i64 b, .int .i64 c, sl]
def long (x : Int) : Prop := 1 ≤ x ∧ x ≤ 1073741824
instance (x : Int) : Decidable (long x) := by unfold long; infer_instance
theorem isLong_yes (x : Int) (h : long x) : RetQ 29 #[.int .i64 x] (.bool true) := fun w => by
  have d1 : decide (1 ≤ x) = true := decide_eq_true h.1
  have d2 : decide (x ≤ 1073741824) = true := decide_eq_true h.2
  clear h
  go_enter Try.func29, Try.ntmps29
  go_wp2_with fail
  go_ret
  exact ⟨rfl, rfl⟩
theorem isLong_no (x : Int) (h : ¬ long x) : RetQ 29 #[.int .i64 x] (.bool false) := fun w => by
  unfold long at h
  by_cases h0 : 1 ≤ x
  · have d1 : decide (1 ≤ x) = true := decide_eq_true h0
    have d2 : decide (x ≤ 1073741824) = false := decide_eq_false (by omega)
    clear h h0
    go_enter Try.func29, Try.ntmps29
    go_wp2_with fail
    go_ret
    exact ⟨rfl, rfl⟩
  · have d1 : decide (1 ≤ x) = false := decide_eq_false h0
    clear h h0
    go_enter Try.func29, Try.ntmps29
    go_wp2_with fail
    go_ret
    exact ⟨rfl, rfl⟩
theorem isLong_any (x : Int) : RetQ 29 #[.int .i64 x] (.bool (decide (long x))) := by
  by_cases h : long x
  · rw [decide_eq_true h]; exact isLong_yes x h
  · rw [decide_eq_false h]; exact isLong_no x h
def isG (x : Int) : Prop := 0 ≤ x ∧ x < 8
instance (x : Int) : Decidable (isG x) := by unfold isG; infer_instance
theorem isGate_yes (x : Int) (h : isG x) : RetQ 49 #[.int .i64 x] (.bool true) := fun w => by
  have d1 : decide (0 ≤ x) = true := decide_eq_true h.1
  have d2 : decide (x < 8) = true := decide_eq_true h.2
  clear h
  go_enter Try.func49, Try.ntmps49
  go_wp2_with fail
  go_ret
  exact ⟨rfl, rfl⟩
theorem isGate_no (x : Int) (h : ¬ isG x) : RetQ 49 #[.int .i64 x] (.bool false) := fun w => by
  unfold isG at h
  by_cases h0 : 0 ≤ x
  · have d1 : decide (0 ≤ x) = true := decide_eq_true h0
    have d2 : decide (x < 8) = false := decide_eq_false (by omega)
    clear h h0
    go_enter Try.func49, Try.ntmps49
    go_wp2_with fail
    go_ret
    exact ⟨rfl, rfl⟩
  · have d1 : decide (0 ≤ x) = false := decide_eq_false h0
    clear h h0
    go_enter Try.func49, Try.ntmps49
    go_wp2_with fail
    go_ret
    exact ⟨rfl, rfl⟩
theorem isGate_any (x : Int) : RetQ 49 #[.int .i64 x] (.bool (decide (isG x))) := by
  by_cases h : isG x
  · rw [decide_eq_true h]; exact isGate_yes x h
  · rw [decide_eq_false h]; exact isGate_no x h

/-- What is wrong with the slots, from one on. -/
def chkFrom (c e : Int) : List (Int × Int) → Int
  | [] => 0
  | (a, r) :: ts => if a < 0 ∨ 256 ≤ a ∨ ¬ long r then 1 else if c < e + r then 61 else chkFrom c (e + r) ts
def chkV (b c : Int) (ts : List (Int × Int)) : Int :=
  if 64 < ts.length then 4 else if ts.length = 0 ∨ ¬ long c ∨ b < 0 ∨ 1099511627776 < b then 1 else chkFrom c 0 ts
/-- The sum up to k is right, and what is wrong from there on. -/
def ChkRel (b c : Int) (sl : Value) (ts : List (Int × Int)) (w : World) (ev kv : Value) (wr : World) : Prop :=
  ∃ k : Nat, k ≤ ts.length ∧ kv = .int .i64 (k : Int) ∧ ev = .int .i64 (pre ts k) ∧ 0 ≤ pre ts k ∧ pre ts k ≤ c ∧ chkFrom c (pre ts k) (ts.drop k) = chkFrom c 0 ts ∧ LB wr w.heap.size b c sl ∧ Below w.heap.size w wr
theorem chk_bad_open {c e a r : Int} {ts : List (Int × Int)} (h : a < 0 ∨ 256 ≤ a ∨ ¬ long r) : chkFrom c e ((a, r) :: ts) = 1 := by unfold chkFrom; rw [if_pos h]
theorem chk_bad_sum {c e a r : Int} {ts : List (Int × Int)} (h : ¬ (a < 0 ∨ 256 ≤ a ∨ ¬ long r)) (h2 : c < e + r) : chkFrom c e ((a, r) :: ts) = 61 := by unfold chkFrom; rw [if_neg h, if_pos h2]
theorem chk_go {c e a r : Int} {ts : List (Int × Int)} (h : ¬ (a < 0 ∨ 256 ≤ a ∨ ¬ long r)) (h2 : ¬ c < e + r) : chkFrom c e ((a, r) :: ts) = chkFrom c (e + r) ts := by
  show (if _ then _ else _) = _
  rw [if_neg h, if_neg h2]

end Go.Proofs.Ytllmfkodgalklaa
