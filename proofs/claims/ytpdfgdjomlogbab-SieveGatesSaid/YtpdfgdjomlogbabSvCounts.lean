/- Package sieve: Counts. -/
import Derived.Test.YtpdfgdjomlogbabSvSum
namespace Go.Proofs.Ytpdfgdjomlogbab
open Go.RowKit Go.Joins

theorem at_loadC {ops : Array Oper} {rest : List Oper} {d : Option Tmp} {x : Operand} {t : TypeId} {s : String} {af : Array Edge} {a : Act} {w : World} {Q : Exit → Act → World → Prop}
    (h : wpList Try.prog ops Q (⟨d, .load 38 x, t, s, af, none⟩ :: rest) a w) : wpList Try.prog ops Q (⟨d, .load 38 x, t, s, af, none⟩ :: rest) a w := h
theorem CV_at (f : Fl) (j : Nat) (v : Value) (h : (CV f).toList[j]? = some v) : j < 6 ∧ (FA f).toList[15 + j]? = some v := by
  have hj : j < 6 := by
    have := (List.getElem?_eq_some_iff.1 h).1
    simpa using this
  refine ⟨hj, ?_⟩
  have : j = 0 ∨ j = 1 ∨ j = 2 ∨ j = 3 ∨ j = 4 ∨ j = 5 := by omega
  rcases this with rfl | rfl | rfl | rfl | rfl | rfl <;> exact h
set_option maxHeartbeats 1000000 in
theorem counts_some {w W : World} {b g n cap : Nat} {L : List Fl} {oth : Int} (h : NS w b (.slice (some ⟨g, 0, none⟩) n cap) L oth W) (hn : n = L.length) {k : Nat} (hk : k < n) (f : Fl) (hf : L.getD k default = f) :
    Calls Try.prog 11 #[.pointer (some ⟨b, 0, none⟩), .int .i64 (k : Int)] W fun e w' => e = .returned (.agg (CV f)) ∧ Below W.heap.size W w' := by
  have HB := bAl (bRef W) (.cells #[.int .i64 0, .int .i64 0, .int .i64 0, .int .i64 0, .int .i64 0, .int .i64 0] 38)
  have h' := h.below HB
  have b0 := cell_of_row _ _ 0 _ _ _ h'.box
  have d1 : decide ((k : Int) < 0) = false := decide_eq_false (by omega)
  have d2 : decide ((k : Int) > (n : Int)) = false := decide_eq_false (by omega)
  have d2' : decide ((n : Int) < (k : Int)) = false := decide_eq_false (by omega)
  have d3 : ((k : Int) == (n : Int)) = false := by simp; omega
  have d4 : decide (k = n) = false := decide_eq_false (by omega)
  have HC := Lib.hid (fun j v (hj : (CV f).toList[j]? = some v) => by
    have q := h'.at hn hk (15 + j) (by have := (CV_at f j v hj).1; omega)
    rw [hf, (CV_at f j v hj).2, ← Nat.add_assoc] at q
    exact q)
  have i0 : (0 : Int) ≤ (k : Int) := by omega
  have i1 : (k : Int) < (n : Int) := by omega
  clear h h' hf hn
  go_enter Try.func11, Try.ntmps11
  go_wp2_with (with_reducible refine at_loadC ?_; refine wpList_load_part rfl _ _ rfl g (k * 21 + 15) rfl (CV f) _ HC.out Try.underlying38 rfl (by kernel_rfl) ?_)
  exact bodyPost_ret (results_cell_row rfl _ _ W.heap.size 38 _ (0, 0) _ rfl (heap_alloc_one _ _) Try.underlying38 rfl (by kernel_rfl)) rfl ⟨rfl, bAl (bRef W) _⟩
set_option maxHeartbeats 1000000 in
theorem counts_none {w W : World} {b : Nat} {vv : Value} {L : List Fl} {oth : Int} (h : NS w b vv L oth W) (n : Nat) (hn : n = L.length) :
    Calls Try.prog 11 #[.pointer (some ⟨b, 0, none⟩), .int .i64 (n : Int)] W fun e w' => e = .returned (.agg #[.int .i64 0, .int .i64 oth, .int .i64 0, .int .i64 0, .int .i64 0, .int .i64 0]) ∧ Below W.heap.size W w' := by
  have HB := bAl (bRef W) (.cells #[.int .i64 0, .int .i64 0, .int .i64 0, .int .i64 0, .int .i64 0, .int .i64 0] 38)
  have h' := h.below HB
  obtain ⟨p, c, rfl⟩ := row_form h.row
  rw [← hn] at h'
  have b0 := cell_of_row _ _ 0 _ _ _ h'.box
  have b3 := cell_of_row _ _ 3 _ _ _ h'.box
  have d1 : decide ((n : Int) < 0) = false := decide_eq_false (by omega)
  have d2' : decide ((n : Int) < (n : Int)) = false := decide_eq_false (by omega)
  clear h h' hn
  go_enter Try.func11, Try.ntmps11
  go_wp2_with fail
  exact bodyPost_ret (results_cell_row rfl _ _ W.heap.size 38 _ (0, 0) _ rfl (heap_alloc_one _ _) Try.underlying38 rfl (by kernel_rfl)) rfl ⟨rfl, bAl (bRef W) _⟩

theorem counts_any {S : List Sm} {w W : World} {b m : Nat} {vv : Value} {L : List Fl} {oth : Int} (h : NS w b vv L oth W) (hz : Cz S L oth m) {k : Nat} (hk : k ≤ S.length) :
    Calls Try.prog 11 #[.pointer (some ⟨b, 0, none⟩), .int .i64 (k : Int)] W fun e w' => e = .returned (.agg (CV (cnt L oth k))) ∧ Below W.heap.size W w' := by
  unfold cnt
  rcases Nat.lt_or_ge k L.length with g | g
  · rw [if_pos g]
    obtain ⟨gg, cap, rfl, _⟩ := h.pos (by omega)
    exact counts_some h rfl g _ rfl
  · rw [if_neg (by omega)]
    have : k = L.length := by have := hz.len; omega
    subst this
    exact counts_none h _ rfl

end Go.Proofs.Ytpdfgdjomlogbab
