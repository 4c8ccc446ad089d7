/- Two clocks held against each other; two rows of eight ints. -/
import Derived.Test.YtholemjbjmkpkaaBtCmp2
import Derived.Laws.StructEq
import Derived.Laws.Tables
import Derived.Laws.ResultCell
import Derived.Laws.CopyOwn
namespace Go.Proofs.Ytholemjbjmkpkaa
open Go.RowKit Go.Joins

set_option maxRecDepth 100000 in
set_option maxHeartbeats 4000000 in
theorem eqP (a0 a1 a2 a3 b0 b1 b2 b3 : Int) (w : World) (x : Bool) (hx : decide (a0 = b0 ∧ a1 = b1 ∧ a2 = b2 ∧ a3 = b3) = x) : (Op.equalIn 10000 23 (.agg #[.int .i64 a0, .int .i64 a1, .int .i64 a2, .int .i64 a3]) (.agg #[.int .i64 b0, .int .i64 b1, .int .i64 b2, .int .i64 b3])).run Try.prog w = .ok x w := by
  have hs := run_equalIn_struct (P := Try.prog) w 9999 23 #[.int .i64 a0, .int .i64 a1, .int .i64 a2, .int .i64 a3] #[.int .i64 b0, .int .i64 b1, .int .i64 b2, .int .i64 b3] (by kernel_rfl) (by kernel_rfl)
  have uL := Try.underlying23
  have uI := Try.underlying3
  rw [show (10000 : Nat) = 9999 + 1 from rfl]
  refine hs.trans ?_
  clear hs
  unfold Program.fieldsOf
  simp only [uL, Op.eqFields]
  cases g0 : (a0 == b0) with
  | false =>
    have e : ¬ a0 = b0 := by simpa using g0
    subst hx
    rw [decide_eq_false (fun h => e (by simp only [h]))]
    go_simp
  | true =>
  obtain rfl : a0 = b0 := by simpa using g0
  cases g1 : (a1 == b1) with
  | false =>
    have e : ¬ a1 = b1 := by simpa using g1
    subst hx
    rw [decide_eq_false (fun h => e (by simp only [h]))]
    go_simp
  | true =>
  obtain rfl : a1 = b1 := by simpa using g1
  cases g2 : (a2 == b2) with
  | false =>
    have e : ¬ a2 = b2 := by simpa using g2
    subst hx
    rw [decide_eq_false (fun h => e (by simp only [h]))]
    go_simp
  | true =>
  obtain rfl : a2 = b2 := by simpa using g2
  cases g3 : (a3 == b3) with
  | false =>
    have e : ¬ a3 = b3 := by simpa using g3
    subst hx
    rw [decide_eq_false (fun h => e (by simp only [h]))]
    go_simp
  | true =>
  obtain rfl : a3 = b3 := by simpa using g3
  subst hx
  go_simp
theorem run_eqP (a0 a1 a2 a3 b0 b1 b2 b3 : Int) (w : World) (x : Bool) (hx : decide (a0 = b0 ∧ a1 = b1 ∧ a2 = b2 ∧ a3 = b3) = x) : (binOp .eql 23 (.agg #[.int .i64 a0, .int .i64 a1, .int .i64 a2, .int .i64 a3]) (.agg #[.int .i64 b0, .int .i64 b1, .int .i64 b2, .int .i64 b3])).run Try.prog w = .ok (.bool x) w := by
  rw [run_eql_struct, eqP a0 a1 a2 a3 b0 b1 b2 b3 w x hx]
  simp [Result.andThen]
theorem run_neP (a0 a1 a2 a3 b0 b1 b2 b3 : Int) (w : World) (x : Bool) (hx : decide (a0 = b0 ∧ a1 = b1 ∧ a2 = b2 ∧ a3 = b3) = x) : (binOp .neq 23 (.agg #[.int .i64 a0, .int .i64 a1, .int .i64 a2, .int .i64 a3]) (.agg #[.int .i64 b0, .int .i64 b1, .int .i64 b2, .int .i64 b3])).run Try.prog w = .ok (.bool (!x)) w := by
  rw [run_neq_struct, eqP a0 a1 a2 a3 b0 b1 b2 b3 w x hx]
  simp [Result.andThen]

set_option maxRecDepth 100000 in
set_option maxHeartbeats 4000000 in
theorem eqVs (a0 a1 a2 a3 a4 a5 a6 a7 : Int) (w : World) : (Op.equalIn 10000 25 (.agg #[.int .i64 a0, .int .i64 a1, .int .i64 a2, .int .i64 a3, .int .i64 a4, .int .i64 a5, .int .i64 a6, .int .i64 a7]) (.agg #[.int .i64 a0, .int .i64 a1, .int .i64 a2, .int .i64 a3, .int .i64 a4, .int .i64 a5, .int .i64 a6, .int .i64 a7])).run Try.prog w = .ok true w := by
  have hs := run_equalIn_struct (P := Try.prog) w 9999 25 #[.int .i64 a0, .int .i64 a1, .int .i64 a2, .int .i64 a3, .int .i64 a4, .int .i64 a5, .int .i64 a6, .int .i64 a7] #[.int .i64 a0, .int .i64 a1, .int .i64 a2, .int .i64 a3, .int .i64 a4, .int .i64 a5, .int .i64 a6, .int .i64 a7] (by kernel_rfl) (by kernel_rfl)
  have hp := run_equalIn_struct (P := Try.prog) w 9998 23 #[.int .i64 a0, .int .i64 a1, .int .i64 a2, .int .i64 a3] #[.int .i64 a0, .int .i64 a1, .int .i64 a2, .int .i64 a3] (by kernel_rfl) (by kernel_rfl)
  have uV := Try.underlying25
  have uL := Try.underlying23
  have uI := Try.underlying3
  have hp1 : (Op.equalIn 9999 23 (.agg #[.int .i64 a0, .int .i64 a1, .int .i64 a2, .int .i64 a3]) (.agg #[.int .i64 a0, .int .i64 a1, .int .i64 a2, .int .i64 a3])).run Try.prog w = .ok true w := by
    rw [show (9999 : Nat) = 9998 + 1 from rfl]
    refine hp.trans ?_
    unfold Program.fieldsOf
    simp only [uL, Op.eqFields]
    go_simp
  rw [show (10000 : Nat) = 9999 + 1 from rfl]
  refine hs.trans ?_
  clear hs hp
  unfold Program.fieldsOf
  simp only [uV, Op.eqFields]
  go_simp
theorem run_neVs (a0 a1 a2 a3 a4 a5 a6 a7 : Int) (w : World) : (binOp .neq 25 (.agg #[.int .i64 a0, .int .i64 a1, .int .i64 a2, .int .i64 a3, .int .i64 a4, .int .i64 a5, .int .i64 a6, .int .i64 a7]) (.agg #[.int .i64 a0, .int .i64 a1, .int .i64 a2, .int .i64 a3, .int .i64 a4, .int .i64 a5, .int .i64 a6, .int .i64 a7])).run Try.prog w = .ok (.bool false) w := by
  rw [run_neq_struct, eqVs a0 a1 a2 a3 a4 a5 a6 a7 w]
  simp [Result.andThen]

end Go.Proofs.Ytholemjbjmkpkaa

/- Package best: beats. -/
namespace Go.Proofs.Ytholemjbjmkpkaa
open Go.RowKit Go.Joins

/-- What the own clock tells at a port, one step more than the chosen one. -/
def tellV (c : Vc) (id k : Int) : Vc := ⟨c.r, wrap64 (c.steps + 1), id, k, 0⟩
def sameR (a b : Vc) : Bool := decide (a.r.one = b.r.one ∧ a.r.cls = b.r.cls ∧ a.r.two = b.r.two ∧ a.r.id = b.r.id)
def beatsB (v : Vc) (id : Int) (c : Vc) (k : Int) : Bool := (sameR v c && v.steps == c.steps) || decide (({ v with at_ := 0 } : Vc).cmp (tellV c id k) < 0)
set_option maxRecDepth 20000 in
set_option maxHeartbeats 2000000 in
theorem beats_any (v : Vc) (id : Int) (c : Vc) (k : Int) (w : World) : Calls Try.prog 44 #[.agg (VC v), .int .i64 id, .agg (VC c), .int .i64 k] w fun e w' => e = .returned (.bool (beatsB v id c k)) ∧ Below w.heap.size w w' := by
  have HB : Hid (beatsB v id c k = ((sameR v c && v.steps == c.steps) || decide (({ v with at_ := 0 } : Vc).cmp (tellV c id k) < 0))) := Lib.hid rfl
  generalize beatsB v id c k = z at *
  have HV := Lib.hid (fun W => vcmp_any { v with at_ := 0 } (tellV c id k) W)
  have heq := fun W => run_eqP v.r.one v.r.cls v.r.two v.r.id c.r.one c.r.cls c.r.two c.r.id W (sameR v c) rfl
  generalize ({ v with at_ := 0 } : Vc).cmp (tellV c id k) = d at *
  generalize sameR v c = s at *
  unfold VC tellV at HV
  unfold VC
  cases s with
  | true =>
    cases hs : (v.steps == c.steps) with
    | true =>
      obtain rfl : z = true := by rw [HB.out, hs]; rfl
      go_enter Try.func44, Try.ntmps44
      go_wp2_with fail
      go_ret
      exact ⟨rfl, bAl (bAl (bRef w) _) _⟩
    | false =>
      obtain rfl : z = decide (d < 0) := by rw [HB.out, hs]; rfl
      go_enter Try.func44, Try.ntmps44
      go_wp2_with (go_at_call 14; (with_reducible refine (HV.out _).mono ?_); rintro e w' ⟨rfl, hb⟩)
      go_ret
      first
      | exact ⟨rfl, bTr (bSet (bAl (bAl (bRef w) _) _) _ (Nat.le_refl _) _) hb⟩
      | exact ⟨rfl, bTr (bAl (bAl (bRef w) _) _) hb⟩
  | false =>
    obtain rfl : z = decide (d < 0) := by rw [HB.out]; rfl
    go_enter Try.func44, Try.ntmps44
    go_wp2_with (go_at_call 14; (with_reducible refine (HV.out _).mono ?_); rintro e w' ⟨rfl, hb⟩)
    go_ret
    first
      | exact ⟨rfl, bTr (bSet (bAl (bAl (bRef w) _) _) _ (Nat.le_refl _) _) hb⟩
      | exact ⟨rfl, bTr (bAl (bAl (bRef w) _) _) hb⟩

/-- A port has heard it, in plain numbers. -/
structure Hd where
  up : Bool
  ok : Bool
  v : Vc
def HC (h : Hd) : Array Value := #[.bool h.up, .bool h.ok, .int .i64 h.v.r.one, .int .i64 h.v.r.cls, .int .i64 h.v.r.two, .int .i64 h.v.r.id, .int .i64 h.v.steps, .int .i64 h.v.from_, .int .i64 h.v.port, .int .i64 h.v.at_]
def roleV (id : Int) (c : Vc) (k : Int) (h : Hd) : Int :=
  if h.up then (if k = c.at_ then 2 else if (c.at_ != -1 && h.ok) && beatsB h.v id c k then 3 else 1) else 0
set_option maxRecDepth 20000 in
set_option maxHeartbeats 2000000 in
theorem role_any (id : Int) (c : Vc) (k : Int) (h : Hd) (w : World) : Calls Try.prog 34 #[.int .i64 id, .agg (VC c), .int .i64 k, .agg (HC h)] w fun e w' => e = .returned (.int .i64 (roleV id c k h)) ∧ Below w.heap.size w w' := by
  obtain ⟨up, ok, v⟩ := h
  unfold roleV
  have HB := Lib.hid (fun W => beats_any v id c k W)
  generalize hz : beatsB v id c k = z at *
  clear hz
  unfold VC at HB
  unfold VC HC
  dsimp only
  cases up with
  | false =>
    go_enter Try.func34, Try.ntmps34
    go_wp2_with fail
    go_ret
    exact ⟨rfl, bAl (bAl (bRef w) _) _⟩
  | true =>
    by_cases hk : k = c.at_
    · have h1 : (k == c.at_) = true := by rw [beq_iff_eq]; exact hk
      rw [if_pos rfl, if_pos hk]
      clear hk
      go_enter Try.func34, Try.ntmps34
      go_wp2_with fail
      go_ret
      exact ⟨rfl, bAl (bAl (bRef w) _) _⟩
    · have h1 : (k == c.at_) = false := by rw [beq_eq_false_iff_ne]; exact hk
      rw [if_pos rfl, if_neg hk]
      clear hk
      cases hn : (c.at_ != -1) with
      | false =>
        go_enter Try.func34, Try.ntmps34
        go_wp2_with fail
        go_ret
        exact ⟨rfl, bAl (bAl (bRef w) _) _⟩
      | true =>
        cases ok with
        | false =>
          go_enter Try.func34, Try.ntmps34
          go_wp2_with fail
          go_ret
          exact ⟨rfl, bAl (bAl (bRef w) _) _⟩
        | true =>
          cases z with
          | false =>
            go_enter Try.func34, Try.ntmps34
            go_wp2_with (go_at_call 44; (with_reducible refine (HB.out _).mono ?_); rintro e w' ⟨rfl, hb⟩)
            go_ret
            exact ⟨rfl, bTr (bAl (bAl (bRef w) _) _) hb⟩
          | true =>
            go_enter Try.func34, Try.ntmps34
            go_wp2_with (go_at_call 44; (with_reducible refine (HB.out _).mono ?_); rintro e w' ⟨rfl, hb⟩)
            go_ret
            exact ⟨rfl, bTr (bAl (bAl (bRef w) _) _) hb⟩

end Go.Proofs.Ytholemjbjmkpkaa

/- Laws at whole structs: loaded, stored, built, answered. -/
namespace Go.Proofs.Ytholemjbjmkpkaa
open Go.RowKit Go.Joins

theorem setRow_siz (w : World) (g : Nat) (cs : Array Value) : (w.setRow g cs).heap.size = w.heap.size := by unfold World.setRow; simp
theorem setRow_newM (w : World) (cs cs' : Array Value) (t : TypeId) (fr : Nat × Nat) : (w.alloc (.cells cs t fr)).setRow w.heap.size cs' = w.alloc (.cells cs' t fr) := by
  have key : (w.heap.push (.cells cs t fr)).modify w.heap.size (fun | .cells _ elem frozen => .cells cs' elem frozen | o => o) = w.heap.push (.cells cs' t fr) := by
    apply Array.ext_getElem?
    intro i
    rw [Array.getElem?_modify]
    by_cases hi : w.heap.size = i
    · subst hi; simp
    · rw [if_neg hi, Array.getElem?_push, Array.getElem?_push, if_neg (fun e => hi e.symm), if_neg (fun e => hi e.symm)]
  exact congrArg (fun h => { w with heap := h }) key
theorem bRow {w w' : World} (h : Below w.heap.size w w') (g : Nat) (hg : w.heap.size ≤ g) (cs : Array Value) : Below w.heap.size w (w'.setRow g cs) :=
  ⟨h.os, h.tape, h.output, by rw [setRow_siz]; exact h.size, fun k hk => (setRow_other w' g k cs (by omega)).trans (h.block k hk)⟩
section
variable {ops : Array Oper} {rest : List Oper} {o : Oper} {a : Act} {w : World} {Q : Exit → Act → World → Prop}
theorem wpList_loadW (hw : Region.wanted o (yielded ops a.tmps) = true) (ty : TypeId) (x : Operand) (ho : o.op = .load ty x) (b f : Nat) (hx : a.eval x = .pointer (some ⟨b, f, none⟩)) (cs : Array Value) (d : TypeDesc) (hc : w.rangeAt b f cs.toList)
    (hu : Try.prog.underlying ty = some d) (hd : d.isRow = true) (hi : (Try.prog.info? ty).map (·.size) = some cs.size) (h : wpList Try.prog ops Q rest (a.put o.dst (.agg cs)) w) : wpList Try.prog ops Q (o :: rest) a w :=
  BigFrame.wpList_want hw fun _ hK => wp_load_mid ty x ho b f hx cs.toList d hc hu hd (by simpa using hi) (hK _ _ h)
theorem wpList_storeNW (hgd : o.guard = none) (ty : TypeId) (x y : Operand) (ho : o.op = .store ty x y) (g : Nat) (hg : g = w.heap.size) (cells old : Array Value) (t : TypeId)
    (hx : a.eval x = .pointer (some ⟨g, 0, none⟩)) (hy : a.eval y = .agg cells) (h1 : cells.all (·.oneCell') = true) (hi : (Try.prog.info? ty).map (·.size) = some cells.size) (hold : old.size = cells.size)
    (h : wpList Try.prog ops Q rest (a.put o.dst undef) (w.alloc (.cells cells t))) : wpList Try.prog ops Q (o :: rest) a (w.alloc (.cells old t)) := by
  subst hg
  exact wpList_store_row hgd ty x y ho w.heap.size cells hx hy t old (heap_alloc_new w _) hi hold h1 (by rw [setRow_newM]; exact h)
theorem wpList_buildG (hg : o.guard = none) (t : TypeId) (ps : Array (Nat × Operand)) (ho : o.op = .build t ps) (cs : Array Value)
    (hb : Try.prog.built t (ps.map fun (i, x) => (i, a.eval x)).toList = some cs) (h : wpList Try.prog ops Q rest (a.put o.dst (.agg cs)) w) : wpList Try.prog ops Q (o :: rest) a w := by
  refine wpList_build hg t ps ho ?_ ?_
  · rw [hb]; rfl
  · rw [hb]; exact h
end
theorem bodyW {fn : Func} {R : Ending → World → Prop} {a : Act} {w : World} {p : Tmp} {ty : TypeId} (h : fn.results = #[.cell p ty]) (g : Nat) (cells : Array Value) (d : TypeDesc) (hp : a.tmps.getD p undef = .pointer (some ⟨g, 0, none⟩))
    (hg : w.heap[g]? = some (.cells cells ty (0, 0))) (hu : Try.prog.underlying ty = some d) (hd0 : d.isRow = true) (hs : (Try.prog.info? ty).map (·.size) = some cells.size) (hd : a.defers = []) (hr : R (.returned (.agg cells)) w) : bodyPost Try.prog fn R Exit.ret a w :=
  bodyPost_ret (results_cell_row h _ w g ty cells (0, 0) _ hp hg hu (by cases d <;> simp_all) hs) hd hr
theorem bodyW2 {fn : Func} {R : Ending → World → Prop} {a : Act} {w : World} {p u : Tmp} {ty : TypeId} (h : fn.results = #[.cell p ty, .tmp u]) (g : Nat) (cells : Array Value) (x : Value) (d : TypeDesc) (hp : a.tmps.getD p undef = .pointer (some ⟨g, 0, none⟩)) (hu : a.tmps.getD u undef = x)
    (hg : w.heap[g]? = some (.cells cells ty (0, 0))) (hun : Try.prog.underlying ty = some d) (hd0 : d.isRow = true) (hs : (Try.prog.info? ty).map (·.size) = some cells.size) (hd : a.defers = []) (hr : R (.returned (.tuple #[.agg cells, x])) w) : bodyPost Try.prog fn R Exit.ret a w := by
  refine bodyPost_ret (v := .tuple #[.agg cells, x]) ?_ hd hr
  rw [results_cell_tmp h, hp, hu]
  have h2 := run_loadVar_row (P := Try.prog) w g ty ty cells (0, 0) _ hg hun (by cases d <;> simp_all) hs
  simp [asAddr, h2]
section
variable {ops : Array Oper} {rest : List Oper} {d : Option Tmp} {x y : Operand} {xs : Array (Nat × Operand)} {t : TypeId} {s : String} {af : Array Edge} {gd : Option (Nat × Bool)} {a : Act} {w : World} {Q : Exit → Act → World → Prop}
theorem at_loadP (h : wpList Try.prog ops Q (⟨d, .load 23 x, t, s, af, gd⟩ :: rest) a w) : wpList Try.prog ops Q (⟨d, .load 23 x, t, s, af, gd⟩ :: rest) a w := h
theorem at_storeP (h : wpList Try.prog ops Q (⟨d, .store 23 x y, t, s, af, none⟩ :: rest) a w) : wpList Try.prog ops Q (⟨d, .store 23 x y, t, s, af, none⟩ :: rest) a w := h
theorem at_buildP (h : wpList Try.prog ops Q (⟨d, .build 23 xs, t, s, af, none⟩ :: rest) a w) : wpList Try.prog ops Q (⟨d, .build 23 xs, t, s, af, none⟩ :: rest) a w := h
theorem at_loadV (h : wpList Try.prog ops Q (⟨d, .load 25 x, t, s, af, gd⟩ :: rest) a w) : wpList Try.prog ops Q (⟨d, .load 25 x, t, s, af, gd⟩ :: rest) a w := h
theorem at_storeV (h : wpList Try.prog ops Q (⟨d, .store 25 x y, t, s, af, none⟩ :: rest) a w) : wpList Try.prog ops Q (⟨d, .store 25 x y, t, s, af, none⟩ :: rest) a w := h
theorem at_buildV (h : wpList Try.prog ops Q (⟨d, .build 25 xs, t, s, af, none⟩ :: rest) a w) : wpList Try.prog ops Q (⟨d, .build 25 xs, t, s, af, none⟩ :: rest) a w := h
theorem at_loadH (h : wpList Try.prog ops Q (⟨d, .load 37 x, t, s, af, gd⟩ :: rest) a w) : wpList Try.prog ops Q (⟨d, .load 37 x, t, s, af, gd⟩ :: rest) a w := h
theorem at_storeH (h : wpList Try.prog ops Q (⟨d, .store 37 x y, t, s, af, none⟩ :: rest) a w) : wpList Try.prog ops Q (⟨d, .store 37 x y, t, s, af, none⟩ :: rest) a w := h
theorem at_buildH (h : wpList Try.prog ops Q (⟨d, .build 37 xs, t, s, af, none⟩ :: rest) a w) : wpList Try.prog ops Q (⟨d, .build 37 xs, t, s, af, none⟩ :: rest) a w := h
theorem at_loadR (h : wpList Try.prog ops Q (⟨d, .load 30 x, t, s, af, gd⟩ :: rest) a w) : wpList Try.prog ops Q (⟨d, .load 30 x, t, s, af, gd⟩ :: rest) a w := h
theorem at_storeR (h : wpList Try.prog ops Q (⟨d, .store 30 x y, t, s, af, none⟩ :: rest) a w) : wpList Try.prog ops Q (⟨d, .store 30 x y, t, s, af, none⟩ :: rest) a w := h
theorem at_buildR (h : wpList Try.prog ops Q (⟨d, .build 30 xs, t, s, af, none⟩ :: rest) a w) : wpList Try.prog ops Q (⟨d, .build 30 xs, t, s, af, none⟩ :: rest) a w := h
theorem at_loadK (h : wpList Try.prog ops Q (⟨d, .load 39 x, t, s, af, gd⟩ :: rest) a w) : wpList Try.prog ops Q (⟨d, .load 39 x, t, s, af, gd⟩ :: rest) a w := h
theorem at_storeK (h : wpList Try.prog ops Q (⟨d, .store 39 x y, t, s, af, none⟩ :: rest) a w) : wpList Try.prog ops Q (⟨d, .store 39 x y, t, s, af, none⟩ :: rest) a w := h
theorem at_buildK (h : wpList Try.prog ops Q (⟨d, .build 39 xs, t, s, af, none⟩ :: rest) a w) : wpList Try.prog ops Q (⟨d, .build 39 xs, t, s, af, none⟩ :: rest) a w := h
end

end Go.Proofs.Ytholemjbjmkpkaa
