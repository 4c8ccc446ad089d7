/- The reference's: New, Anew. -/
import Derived.Test.YtnkblihdgfhcdaaSqRef1
namespace Go.Proofs.Ytnkblihdgfhcdaa
open Go.RowKit Go.Joins

/-- The reference's state. -/
structure RQ where
  way : Int
  len : Int
  reset : Int
  any : Bool
  last : Int
  had : List Int
  when : Int
  c0 : Int
  c1 : Int
  c2 : Int
  c3 : Int
  resets : Int
  lost : Int
abbrev RA (r : RQ) (v : Value) : Array Value := #[.int .i64 r.way, .int .i64 r.len, .int .i64 r.reset, .bool r.any, .int .i64 r.last, v, .int .i64 r.when, .int .i64 r.c0, .int .i64 r.c1, .int .i64 r.c2, .int .i64 r.c3, .int .i64 r.resets, .int .i64 r.lost]
abbrev RV (r : RQ) (v : Value) : Value := .agg (RA r v)
def R0 (way len reset now : Int) : RQ := ⟨way, len, reset, true, 0, [], now, 0, 0, 0, 0, 0, 0⟩
def RQ.anew (r : RQ) : RQ := { r with any := true, had := [], resets := wrap64 (r.resets + 1) }
/-- A state in a box. -/
def RB (w : World) (g : Nat) (r : RQ) (v : Value) : Prop := w.heap[g]? = some (.cells (RA r v) 39 (0, 0))
theorem RB.lt {w : World} {g : Nat} {r : RQ} {v : Value} (h : RB w g r v) : g < w.heap.size := lt_of_heap h
theorem RB.below {w w' : World} {g : Nat} {r : RQ} {v : Value} (h : RB w g r v) (hb : Below w.heap.size w w') : RB w' g r v := (hb.block g h.lt).trans h
theorem RB.other {w : World} {g : Nat} {r : RQ} {v : Value} (h : RB w g r v) (a : Addr) (ha : g ≠ a.block) (x : Value) : RB (w.setCell a x) g r v := (heap_setCell_other w a g x ha).trans h
set_option maxHeartbeats 4000000 in
theorem rnew_ret (way len reset now : Int) (w : World) : Calls Try.prog 22 #[.int .i64 way, .int .i64 len, .int .i64 reset, .int .i64 now] w fun e w' => e = .returned (RV (R0 way len reset now) (.slice none 0 0)) ∧ Below w.heap.size w w' := by
  go_enter Try.func22, Try.ntmps22
  go_wp2_with fail
  exact bodyPost_ret (results_cell_row rfl _ _ w.heap.size 39 _ (0, 0) _ rfl (heap_alloc_one' _ _) Try.underlying39 rfl (by kernel_rfl)) rfl ⟨rfl, bAl (bRef w) _⟩
set_option maxHeartbeats 4000000 in
theorem ranew_ret (r : RQ) (p : Option Addr) (n c : Nat) (w : World) : Calls Try.prog 23 #[RV r (.slice p n c)] w fun e w' => e = .returned (RV r.anew (.slice none 0 0)) ∧ Below w.heap.size w w' := by
  go_enter Try.func23, Try.ntmps23
  go_wp2_with fail
  exact bodyPost_ret (results_cell_row rfl _ _ (w.heap.size + 1) 39 _ (0, 0) _ rfl (heap_alloc2_new w _ _) Try.underlying39 rfl (by kernel_rfl)) rfl ⟨rfl, bAl (bAl (bRef w) _) _⟩

theorem bodyR {fn : Func} {R : Ending → World → Prop} {a : Act} {w : World} {p u1 u2 : Tmp} (h : fn.results = #[.cell p 39, .tmp u1, .tmp u2]) (g : Nat) (cells : Array Value) (x y : Value) (hp : a.tmps.getD p undef = .pointer (some ⟨g, 0, none⟩)) (h1 : a.tmps.getD u1 undef = x) (h2 : a.tmps.getD u2 undef = y)
    (hg : w.heap[g]? = some (.cells cells 39 (0, 0))) (hs : cells.size = 13) (hd : a.defers = []) (hr : R (.returned (.tuple #[.agg cells, x, y])) w) : bodyPost Try.prog fn R Exit.ret a w := by
  refine bodyPost_ret (v := .tuple #[.agg cells, x, y]) ?_ hd hr
  have hp' : a.tmps[p]?.getD undef = .pointer (some ⟨g, 0, none⟩) := by simpa using hp
  have hq1 : a.tmps[u1]?.getD undef = x := by simpa using h1
  have hq2 : a.tmps[u2]?.getD undef = y := by simpa using h2
  simp [results, h, hp', hq1, hq2, asAddr, run_loadVar_row w g _ 39 cells _ _ hg Try.underlying39 rfl (by rw [hs]; kernel_rfl)]
theorem heap_alloc3_new (w : World) (A B C : Obj) : (((w.alloc A).alloc B).alloc C).heap[w.heap.size + 1 + 1]? = some C := by
  have h := heap_alloc_new ((w.alloc A).alloc B) C
  rw [show ((w.alloc A).alloc B).heap.size = w.heap.size + 1 + 1 by simp] at h
  exact h
theorem la_one {w : World} {g : Nat} {fr : Nat × Nat} (x : Int) (cap : Nat) (h : w.heap[g]? = some (.cells #[.int .i64 x] 3 fr)) : LA w (.slice (some ⟨g, 0, none⟩) 1 cap) [x] := by
  refine .inr ⟨by simp, g, 0, cap, rfl, ⟨_, _, h⟩, fun k hk => ?_⟩
  have : k = 0 := by simp at hk; exact hk
  subst this
  rw [Nat.zero_add, cell_of_row w g 0 _ _ _ h]
  rfl
/-- What the reference's In has done. -/
def InPost (w : World) (r : RQ) (x y : Int) (e : Ending) (w' : World) : Prop := ∃ v, e = .returned (.tuple #[RV r v, .int .i64 x, .int .i64 y]) ∧ LA w' v r.had ∧ Below w.heap.size w w'
set_option maxHeartbeats 8000000 in
theorem rin_bad (r : RQ) (p : Option Addr) (n c : Nat) (now seq : Int) (w : World) (hh : LA w (.slice p n c) r.had) (hs : seq < 0 ∨ 65535 < seq) : Calls Try.prog 24 #[RV r (.slice p n c), .int .i64 now, .int .i64 seq] w (InPost w r 2 1) := by
  have HH := Lib.hid hh
  clear hh
  by_cases h : seq < 0
  · have d1 : decide (seq < 0) = true := decide_eq_true h
    clear hs h
    go_enter Try.func24, Try.ntmps24
    go_wp2_with fail
    refine bodyR rfl (w.heap.size + 1) _ _ _ rfl rfl rfl (heap_alloc2_new w _ _) rfl rfl ?_
    exact ⟨_, rfl, HH.out.below (bAl (bAl (bRef w) _) _), bAl (bAl (bRef w) _) _⟩
  · have d1 : decide (seq < 0) = false := decide_eq_false h
    have d2 : decide (65535 < seq) = true := decide_eq_true (by omega)
    clear hs h
    go_enter Try.func24, Try.ntmps24
    go_wp2_with fail
    refine bodyR rfl (w.heap.size + 1) _ _ _ rfl rfl rfl (heap_alloc2_new w _ _) rfl rfl ?_
    exact ⟨_, rfl, HH.out.below (bAl (bAl (bRef w) _) _), bAl (bAl (bRef w) _) _⟩
def RQ.took (r : RQ) (x now : Int) : RQ :=
  let q : RQ := if x = 0 then { r with c0 := wrap64 (r.c0 + 1) } else if x = 1 then { r with c1 := wrap64 (r.c1 + 1) } else if x = 2 then { r with c2 := wrap64 (r.c2 + 1) } else { r with c3 := wrap64 (r.c3 + 1) }
  if x = 0 ∨ x = 3 then { q with when := now, any := false } else q

set_option maxHeartbeats 8000000 in
theorem rin_new1 (r : RQ) (p : Option Addr) (n c : Nat) (now seq : Int) (w : World) (hh : LA w (.slice p n c) r.had) (h0 : 0 ≤ seq) (h1 : seq ≤ 65535) (ha : r.any = true) (hw : r.way = 1) : Calls Try.prog 24 #[RV r (.slice p n c), .int .i64 now, .int .i64 seq] w (InPost w (({ r with last := seq } : RQ).took 0 now) 0 0) := by
  have HH := Lib.hid hh
  obtain ⟨way, len, reset, any, last, had, when, c0, c1, c2, c3, resets, lost⟩ := r
  simp only at ha hw HH
  subst ha
  subst hw
  have d1 : decide (seq < 0) = false := decide_eq_false (by omega)
  have d2 : decide (65535 < seq) = false := decide_eq_false (by omega)
  clear hh h0 h1
  go_enter Try.func24, Try.ntmps24
  go_wp2_with fail
  refine bodyR rfl (w.heap.size + 1) _ _ _ rfl rfl rfl (heap_alloc2_new w _ _) rfl rfl ?_
  exact ⟨_, rfl, HH.out.below (bAl (bAl (bRef w) _) _), bAl (bAl (bRef w) _) _⟩

set_option maxRecDepth 20000 in
set_option maxHeartbeats 8000000 in
theorem rin_new0 (r : RQ) (p : Option Addr) (n c : Nat) (now seq : Int) (w : World) (hh : LA w (.slice p n c) r.had) (h0 : 0 ≤ seq) (h1 : seq ≤ 65535) (ha : r.any = true) (hw : r.way = 0) : Calls Try.prog 24 #[RV r (.slice p n c), .int .i64 now, .int .i64 seq] w (InPost w (({ r with last := seq, had := [0] } : RQ).took 0 now) 0 0) := by
  have HH := Lib.hid hh
  obtain ⟨way, len, reset, any, last, had, when, c0, c1, c2, c3, resets, lost⟩ := r
  simp only at ha hw HH
  subst ha
  subst hw
  have d1 : decide (seq < 0) = false := decide_eq_false (by omega)
  have d2 : decide (65535 < seq) = false := decide_eq_false (by omega)
  clear hh h0 h1
  go_enter Try.func24, Try.ntmps24
  go_wp2_with fail
  refine bodyR rfl (w.heap.size + 1) _ _ _ rfl rfl rfl (((bAl (bRef ((w.alloc _).alloc _)) _).block (w.heap.size + 1) (by simp)).trans (heap_alloc2_new w _ _)) rfl rfl ?_
  exact ⟨_, rfl, la_one _ _ (heap_alloc3_new w _ _ _), bAl (bAl (bAl (bRef w) _) _) _⟩
set_option maxRecDepth 20000 in
set_option maxHeartbeats 8000000 in
theorem rin_match1 (r : RQ) (p : Option Addr) (n c : Nat) (now seq : Int) (w : World) (hh : LA w (.slice p n c) r.had) (h0 : 0 ≤ seq) (h1 : seq ≤ 65535) (ha : r.any = false) (hl : ∀ W, Calls Try.prog 38 #[.int .i64 now, .int .i64 r.when, .int .i64 r.reset] W fun e w' => e = .returned (.bool false) ∧ w' = W) (hw : r.way = 1) (hs : r.last = seq) : Calls Try.prog 24 #[RV r (.slice p n c), .int .i64 now, .int .i64 seq] w (InPost w (r.took 1 now) 1 0) := by
  have HH := Lib.hid hh
  obtain ⟨way, len, reset, any, last, had, when, c0, c1, c2, c3, resets, lost⟩ := r
  simp only at ha hl hw hs HH
  subst ha
  subst hw
  have d1 : decide (seq < 0) = false := decide_eq_false (by omega)
  have d2 : decide (65535 < seq) = false := decide_eq_false (by omega)
  have HL := Lib.hid hl
  have hs2 : (last == seq) = true := by simp [hs]
  clear hh h0 h1 hl hs
  go_enter Try.func24, Try.ntmps24
  go_wp2_with (go_at_call 38; (with_reducible refine (HL.out _).mono ?_); rintro e xl ⟨rfl, rfl⟩)
  refine bodyR rfl (w.heap.size + 1) _ _ _ rfl rfl rfl (heap_alloc2_new w _ _) rfl rfl ?_
  exact ⟨_, rfl, HH.out.below (bAl (bAl (bRef w) _) _), bAl (bAl (bRef w) _) _⟩
set_option maxRecDepth 20000 in
set_option maxHeartbeats 8000000 in
theorem rin_match0 (r : RQ) (p : Option Addr) (n c : Nat) (now seq : Int) (w : World) (hh : LA w (.slice p n c) r.had) (h0 : 0 ≤ seq) (h1 : seq ≤ 65535) (ha : r.any = false) (hl : ∀ W, Calls Try.prog 38 #[.int .i64 now, .int .i64 r.when, .int .i64 r.reset] W fun e w' => e = .returned (.bool false) ∧ w' = W) (hw : r.way = 1) (hs : r.last ≠ seq) : Calls Try.prog 24 #[RV r (.slice p n c), .int .i64 now, .int .i64 seq] w (InPost w (({ r with last := seq } : RQ).took 0 now) 0 0) := by
  have HH := Lib.hid hh
  obtain ⟨way, len, reset, any, last, had, when, c0, c1, c2, c3, resets, lost⟩ := r
  simp only at ha hl hw hs HH
  subst ha
  subst hw
  have d1 : decide (seq < 0) = false := decide_eq_false (by omega)
  have d2 : decide (65535 < seq) = false := decide_eq_false (by omega)
  have HL := Lib.hid hl
  have hs2 : (last == seq) = false := by simpa using hs
  clear hh h0 h1 hl hs
  go_enter Try.func24, Try.ntmps24
  go_wp2_with (go_at_call 38; (with_reducible refine (HL.out _).mono ?_); rintro e xl ⟨rfl, rfl⟩)
  refine bodyR rfl (w.heap.size + 1) _ _ _ rfl rfl rfl (heap_alloc2_new w _ _) rfl rfl ?_
  exact ⟨_, rfl, HH.out.below (bAl (bAl (bRef w) _) _), bAl (bAl (bRef w) _) _⟩
set_option maxRecDepth 20000 in
set_option maxHeartbeats 8000000 in
theorem rin_rogue (r : RQ) (p : Option Addr) (n c : Nat) (now seq : Int) (w : World) (hh : LA w (.slice p n c) r.had) (h0 : 0 ≤ seq) (h1 : seq ≤ 65535) (D : Int) (ha : r.any = false) (hl : ∀ W, Calls Try.prog 38 #[.int .i64 now, .int .i64 r.when, .int .i64 r.reset] W fun e w' => e = .returned (.bool false) ∧ w' = W) (hD : ∀ W, Calls Try.prog 39 #[.int .i64 seq, .int .i64 r.last] W fun e w' => e = .returned (.int .i64 D) ∧ w' = W) (hw : r.way = 0) (hl1 : 1 ≤ r.len ∧ r.len ≤ 64) (hr : r.len ≤ D ∨ D ≤ -r.len) : Calls Try.prog 24 #[RV r (.slice p n c), .int .i64 now, .int .i64 seq] w (InPost w (r.took 2 now) 2 0) := by
  have HH := Lib.hid hh
  obtain ⟨way, len, reset, any, last, had, when, c0, c1, c2, c3, resets, lost⟩ := r
  simp only at ha hl hD hw hl1 hr HH
  subst ha
  subst hw
  have d1 : decide (seq < 0) = false := decide_eq_false (by omega)
  have d2 : decide (65535 < seq) = false := decide_eq_false (by omega)
  have HL := Lib.hid hl
  have HD := Lib.hid hD
  have e1 : wrap64 (-len) = -len := by unfold wrap64; omega
  clear hh h0 h1 hl hD
  by_cases hg : len ≤ D
  · have d3 : decide (len ≤ D) = true := decide_eq_true hg
    clear hl1 hr hg
    go_enter Try.func24, Try.ntmps24
    go_wp2_with (first
      | (go_at_call 38; (with_reducible refine (HL.out _).mono ?_); rintro e xl ⟨rfl, rfl⟩)
      | (go_at_call 39; (with_reducible refine (HD.out _).mono ?_); rintro e xa ⟨rfl, rfl⟩))
    refine bodyR rfl (w.heap.size + 1) _ _ _ rfl rfl rfl (heap_alloc2_new w _ _) rfl rfl ?_
    exact ⟨_, rfl, HH.out.below (bAl (bAl (bRef w) _) _), bAl (bAl (bRef w) _) _⟩
  have d3 : decide (len ≤ D) = false := decide_eq_false hg
  have d4 : decide (D ≤ -len) = true := decide_eq_true (hr.resolve_left hg)
  clear hl1 hr hg
  go_enter Try.func24, Try.ntmps24
  go_wp2_with (first
    | (go_at_call 38; (with_reducible refine (HL.out _).mono ?_); rintro e xl ⟨rfl, rfl⟩)
    | (go_at_call 39; (with_reducible refine (HD.out _).mono ?_); rintro e xa ⟨rfl, rfl⟩))
  refine bodyR rfl (w.heap.size + 1) _ _ _ rfl rfl rfl (heap_alloc2_new w _ _) rfl rfl ?_
  exact ⟨_, rfl, HH.out.below (bAl (bAl (bRef w) _) _), bAl (bAl (bRef w) _) _⟩
end Go.Proofs.Ytnkblihdgfhcdaa
