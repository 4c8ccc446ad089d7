/- Package peer: isRight, and halves of answers that are refused, or are the first one. -/
import Derived.Test.YtnfoimkiihfalaaPeAsk
namespace Go.Proofs.Ytnfoimkiihfalaa
open Go.RowKit Go.Joins

/-- Check of this message answers x, in whatever world behind. -/
def ChkTo (w : World) (m : Mg) (v : Value) (x : Nat) : Prop := ∀ W, Below w.heap.size w W → Calls Try.prog 15 #[.agg (MC m v)] W fun e w' => e = .returned (.int .i64 (x : Int)) ∧ Below W.heap.size W w'
theorem ChkTo.of {w : World} {m : Mg} {v : Value} (hw : m.Wf) (hA : LArg w v m.path) (hl : m.path.length ≤ 140737488355328) : ChkTo w m v m.chk := fun W hb => check_any m v W hw (hA.below hb) hl
theorem ChkTo.go {w : World} {m : Mg} {v : Value} {x : Nat} (h : ChkTo w m v x) (W : World) (hW : Below w.heap.size w W) : Calls Try.prog 15 #[.agg (MC m v)] W fun e w' => e = .returned (.int .i64 (x : Int)) ∧ Below W.heap.size W w' := h W hW
theorem new_drewN (w : World) (o : Obj) (n : Nat) : ((w.alloc o).drewN n).heap[w.heap.size]? = some o := heap_alloc_new w o
theorem ChkTo.mono {w w1 : World} {m : Mg} {v : Value} {x : Nat} (h : ChkTo w m v x) (hb : Below w.heap.size w w1) : ChkTo w1 m v x := fun W hW => h W (bTr hb hW)
theorem right_kind (m : Mg) (v : Value) (k : Int) (w : World) (hk : m.kind ≠ k) : Calls Try.prog 41 #[.agg (MC m v), .int .i64 k] w fun e w' => e = .returned (.bool false) ∧ Below w.heap.size w w' := by
  have d : (m.kind == k) = false := by rw [beq_eq_false_iff_ne]; exact hk
  clear hk
  unfold MC
  go_enter Try.func41, Try.ntmps41
  go_wp2_with fail
  go_ret
  exact ⟨rfl, bAl (bRef w) _⟩
theorem right_chk (m : Mg) (v : Value) (k : Int) (w : World) (hk : m.kind = k) (x : Nat) (hC : ChkTo w m v x) : Calls Try.prog 41 #[.agg (MC m v), .int .i64 k] w fun e w' => e = .returned (.bool (decide (x = 0))) ∧ Below w.heap.size w w' := by
  have d : (m.kind == k) = true := by rw [beq_iff_eq]; exact hk
  have HC := Lib.hid hC
  clear hk hC
  unfold MC
  by_cases h0 : x = 0
  · subst h0
    go_enter Try.func41, Try.ntmps41
    go_wp2_with (first
      | ((with_reducible refine at_loadMG ?_); refine wpList_loadMG (by rfl) _ rfl w.heap.size rfl (MC m v) _ (heap_alloc_new w _) rfl ?_)
      | (go_at_call 15; (with_reducible refine (HC.out.go _ (bAl (bRef w) _)).mono ?_); rintro e w1 ⟨rfl, hb⟩; have HB := Lib.hid (bTr (bAl (bRef w) _) hb); clear hb))
    go_ret
    exact ⟨rfl, HB.out⟩
  · have d2 : ((x : Int) == 0) = false := by rw [beq_eq_false_iff_ne]; omega
    rw [decide_eq_false h0]
    clear h0
    go_enter Try.func41, Try.ntmps41
    go_wp2_with (first
      | ((with_reducible refine at_loadMG ?_); refine wpList_loadMG (by rfl) _ rfl w.heap.size rfl (MC m v) _ (heap_alloc_new w _) rfl ?_)
      | (go_at_call 15; (with_reducible refine (HC.out.go _ (bAl (bRef w) _)).mono ?_); rintro e w1 ⟨rfl, hb⟩; have HB := Lib.hid (bTr (bAl (bRef w) _) hb); clear hb))
    go_ret
    exact ⟨rfl, HB.out⟩

section
variable {w : World} {b : Nat} {s : PS}
theorem bool_ne {a c : Int} (h : a = c) : (a != c) = false := by rw [bne_eq_false_iff_eq]; exact h
set_option maxHeartbeats 1000000 in
theorem in_other (h : Pr w b s) (m : Mg) (v : Value) (x : Int) (hn : ¬ (m.seq = s.seq ∧ m.tw = s.id ∧ m.tp = s.port)) : Calls Try.prog 20 #[.pointer (some ⟨b, 0, none⟩), .agg (MC m v), .int .i64 x] w fun e w' => e = .returned (.int .i64 31) ∧ Below w.heap.size w w' := by
  obtain ⟨u, h⟩ := h
  have c0 := h.c0
  have c1 := h.c1
  have c6 := h.c6
  have hlt := h.lt
  clear h
  unfold MC
  by_cases h1 : m.seq = s.seq
  · have d1 := bool_ne h1
    by_cases h2 : m.tw = s.id
    · have d2 := bool_ne h2
      have d3 : (m.tp != s.port) = true := by rw [bne_iff_ne]; exact fun h3 => hn ⟨h1, h2, h3⟩
      clear hn h1 h2
      go_enter Try.func20, Try.ntmps20
      go_wp2_with fail
      go_quiet (fail)
      go_wp2_with fail
      go_ret
      exact ⟨rfl, bDr (bAl (bRef w) _) _⟩
    · have d2 : (m.tw != s.id) = true := by rw [bne_iff_ne]; exact h2
      clear hn h1 h2
      go_enter Try.func20, Try.ntmps20
      go_wp2_with fail
      go_quiet (fail)
      go_wp2_with fail
      go_ret
      exact ⟨rfl, bDr (bAl (bRef w) _) _⟩
  · have d1 : (m.seq != s.seq) = true := by rw [bne_iff_ne]; exact h1
    clear hn h1
    go_enter Try.func20, Try.ntmps20
    go_wp2_with fail
    go_quiet (fail)
    go_wp2_with fail
    go_ret
    exact ⟨rfl, bDr (bAl (bRef w) _) _⟩
set_option maxHeartbeats 1000000 in
theorem in_stage (h : Pr w b s) (m : Mg) (v : Value) (x : Int) (h1 : m.seq = s.seq) (h2 : m.tw = s.id) (h3 : m.tp = s.port) (h4 : s.stage ≠ 2) (h5 : s.stage ≠ 3) : Calls Try.prog 20 #[.pointer (some ⟨b, 0, none⟩), .agg (MC m v), .int .i64 x] w fun e w' => e = .returned (.int .i64 31) ∧ Below w.heap.size w w' := by
  obtain ⟨u, h⟩ := h
  have c0 := h.c0
  have c1 := h.c1
  have c6 := h.c6
  have c7 := h.c7
  have hlt := h.lt
  have d1 := bool_ne h1
  have d2 := bool_ne h2
  have d3 := bool_ne h3
  have d4 : (s.stage == 2) = false := by rw [beq_eq_false_iff_ne]; exact h4
  have d5 : (s.stage == 3) = false := by rw [beq_eq_false_iff_ne]; exact h5
  clear h h1 h2 h3 h4 h5
  unfold MC
  go_enter Try.func20, Try.ntmps20
  go_wp2_with fail
  go_quiet (fail)
  go_wp2_with fail
  go_ret
  exact ⟨rfl, bDr (bAl (bRef w) _) _⟩
set_option maxHeartbeats 1000000 in
theorem in_resp (h : Pr w b s) (m : Mg) (v : Value) (x : Int) (h1 : m.seq = s.seq) (h2 : m.tw = s.id) (h3 : m.tp = s.port) (h4 : s.stage = 2) (h5 : m.kind = 3) (hC : ChkTo w m v 0) : Calls Try.prog 20 #[.pointer (some ⟨b, 0, none⟩), .agg (MC m v), .int .i64 x] w fun e w' => e = .returned (.int .i64 0) ∧ Leave b w { s with t2 := m.time, t4 := x, stage := 3 } w' := by
  obtain ⟨u, h⟩ := h
  have c0 := h.c0
  have c1 := h.c1
  have c6 := h.c6
  have c7 := h.c7
  have hlt := h.lt
  have d1 := bool_ne h1
  have d2 := bool_ne h2
  have d3 := bool_ne h3
  rw [h4] at c7
  have HR : Hid (∀ W, Below w.heap.size w W → Calls Try.prog 41 #[.agg (MC m v), .int .i64 3] W fun e w' => e = .returned (.bool true) ∧ Below W.heap.size W w') := Lib.hid (fun W hW => right_chk m v 3 W h5 0 (hC.mono hW))
  have H := Lib.hid h
  clear h h1 h2 h3 h4 h5 hC
  unfold MC
  go_enter Try.func20, Try.ntmps20
  go_wp2_with fail
  go_quiet (fail)
  go_wp2_with (first
    | ((with_reducible refine at_loadMG ?_); go_loud ((refine wpList_loadMG (by rfl) _ rfl w.heap.size rfl (MC m v) _ (new_drewN w _ _) rfl ?_)))
    | (go_at_call 41; go_loud (((with_reducible refine (HR.out _ (bDr (bAl (bRef w) _) _)).mono ?_); rintro e w1 ⟨rfl, hb⟩; have hb2 := bTr (bDr (bAl (bRef w) _) _) hb; have k := H.out.below hb2; have k0 := k.fz; have k9 := k.c9; have k10 := k.c10; have k7 := k.c7; have m6 : w1.cell? ⟨w.heap.size, 6, none⟩ = some (.int .i64 m.time) := (hb.cell (p := ⟨w.heap.size, 6, none⟩) (by simp)).trans (cell_of_row _ _ _ _ _ _ (heap_alloc_new w _)); have s1 := k.set 9 (.int .i64 m.time) (s' := { s with t2 := m.time }) rfl k.mks; have s2 := s1.set 10 (.int .i64 x) (s' := { s with t2 := m.time, t4 := x }) rfl s1.mks; have HF := Lib.hid (s2.set 7 (.int .i64 3) (s' := { s with t2 := m.time, t4 := x, stage := 3 }) rfl s2.mks); have HG := Lib.hid (set_but (set_but (set_but (ButB.of_below (b := b) hb2) 9 (.int .i64 m.time)) 10 (.int .i64 x)) 7 (.int .i64 3)); clear hb hb2 k s1 s2))))
  go_ret
  exact ⟨rfl, ⟨_, HF.out⟩, HG.out⟩
end

end Go.Proofs.Ytnfoimkiihfalaa
