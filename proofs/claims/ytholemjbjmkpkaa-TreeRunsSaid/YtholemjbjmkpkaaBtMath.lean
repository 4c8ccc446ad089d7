/- Ints that are read. -/
import Derived.Test.YtholemjbjmkpkaaPost
import Derived.WalkKit
import Derived.WalkMore
import Derived.WalkSpells
import Derived.WalkLawsBesides
import Derived.BigQuiet
import Derived.Deep.QuietTactic
import Derived.Deep.RegionHeld
import Derived.Deep.RegionHeld3
import Derived.OrdersHeld
import Derived.Lib.Hide
import Derived.Lib.Small
import Derived.Lib.Walk
import Derived.Lib.SmallJoins
import Derived.Deep.DeepCutAuto
import Derived.Laws.AppendOwnNone
import Derived.Maps.AppendAt
import Derived.Laws.Rows
namespace Go.Proofs.Ytholemjbjmkpkaa
open Go.RowKit Go.Joins

/-- The call returns v, and leaves what there was as it was. -/
def Ret (f : FuncId) (args : Array Value) (v : Value) : Prop := ∀ w : World, Calls Try.prog f args w fun e w' => e = .returned v ∧ Below w.heap.size w w'
/-- The call returns v, and nothing else. -/
def RetQ (f : FuncId) (args : Array Value) (v : Value) : Prop := ∀ w : World, Calls Try.prog f args w fun e w' => e = .returned v ∧ w = w'
theorem bAl {w w' : World} (h : Below w.heap.size w w') (o : Obj) : Below w.heap.size w (w'.alloc o) := h.alloc h.size o
theorem bDr {w w' : World} (h : Below w.heap.size w w') (n : Nat) : Below w.heap.size w (w'.drewN n) := ⟨h.os, h.tape, h.output, h.size, h.block⟩
theorem bTr {w w1 w2 : World} (h : Below w.heap.size w w1) (k : Below w1.heap.size w1 w2) : Below w.heap.size w w2 := h.trans (k.mono h.size)
theorem bSet {w w' : World} (h : Below w.heap.size w w') (p : Addr) (hp : w.heap.size ≤ p.block) (v : Value) : Below w.heap.size w (w'.setCell p v) := h.setCell hp v
theorem bRef (w : World) : Below w.heap.size w w := Below.refl _ _
theorem Ret.go {f : FuncId} {args : Array Value} {v : Value} (h : Ret f args v) (w : World) : Calls Try.prog f args w fun e w' => e = .returned v ∧ Below w.heap.size w w' := h w
theorem RetQ.go {f : FuncId} {args : Array Value} {v : Value} (h : RetQ f args v) (w : World) : Calls Try.prog f args w fun e w' => e = .returned v ∧ w = w' := h w
theorem RetQ.ret {f : FuncId} {args : Array Value} {v : Value} (h : RetQ f args v) : Ret f args v := fun w => (h w).mono fun _ _ ⟨h1, h2⟩ => ⟨h1, h2 ▸ bRef w⟩
theorem bcell {W w1 : World} (hb : Below W.heap.size W w1) : (∀ b o, b < W.heap.size → w1.cell? ⟨b, o, none⟩ = W.cell? ⟨b, o, none⟩) ∧ (∀ b o, b < W.heap.size → w1.frozen? ⟨b, o, none⟩ = W.frozen? ⟨b, o, none⟩) :=
  ⟨fun b o h => hb.cell (p := ⟨b, o, none⟩) h, fun b o h => hb.frozen (p := ⟨b, o, none⟩) h⟩
def In64 (a : Int) : Prop := -9223372036854775808 ≤ a ∧ a < 9223372036854775808
theorem bDr1 {B : Nat} {w w' : World} (h : Below B w w') : Below B w w'.drew := ⟨h.os, h.tape, h.output, h.size, h.block⟩
theorem lt_of_heap {w : World} {k : Nat} {o : Obj} (h : w.heap[k]? = some o) : k < w.heap.size := by
  rcases Nat.lt_or_ge k w.heap.size with g | g
  · exact g
  · rw [Array.getElem?_eq_none g] at h; cases h
theorem block_lt_cell {w : World} {a : Addr} {v : Value} (h : w.cell? a = some v) : a.block < w.heap.size := World.block_lt_of_cell? _ _ h
def RdL (w : World) (b o : Nat) (xs : List Int) : Prop :=
  0 < xs.length → b < w.heap.size ∧ ∀ k, k < xs.length → w.cell? ⟨b, o + k, none⟩ = some (.int .i64 (xs.getD k 0))
/-- The value's elements are these ints. -/
def LArg (w : World) (v : Value) (xs : List Int) : Prop :=
  (∀ x ∈ xs, In64 x) ∧
  ((xs = [] ∧ ∃ a c, v = .slice a 0 c ∧ (a = none → c = 0)) ∨
   (0 < xs.length ∧ ∃ b o c, v = .slice (some ⟨b, o, none⟩) xs.length c ∧ xs.length ≤ c ∧ RdL w b o xs))
theorem in_getD {xs : List Int} (h : ∀ x ∈ xs, In64 x) (k : Nat) : In64 (xs.getD k 0) := by
  rw [List.getD_eq_getElem?_getD]
  rcases Nat.lt_or_ge k xs.length with hk | hk
  · rw [List.getElem?_eq_getElem hk]; exact h _ (List.getElem_mem hk)
  · rw [List.getElem?_eq_none hk]; exact ⟨by decide, by decide⟩
theorem take_snocI {xs : List Int} {k : Nat} (h : k < xs.length) : xs.take (k + 1) = xs.take k ++ [xs.getD k 0] := by
  rw [List.take_succ_eq_append_getElem h]; simp [List.getD_eq_getElem?_getD, h]
section
variable {w w' : World} {b o : Nat} {v : Value} {xs : List Int}
theorem RdL.below (h : RdL w b o xs) (hb : Below w.heap.size w w') : RdL w' b o xs := fun h0 => by
  obtain ⟨hlt, hc⟩ := h h0
  exact ⟨Nat.lt_of_lt_of_le hlt hb.size, fun k hk => (hb.cell hlt).trans (hc k hk)⟩
theorem LArg.below (h : LArg w v xs) (hb : Below w.heap.size w w') : LArg w' v xs := by
  obtain ⟨h1, h2⟩ := h
  refine ⟨h1, ?_⟩
  rcases h2 with h2 | ⟨h3, b, o, c, e, hc, hr⟩
  · exact .inl h2
  · exact .inr ⟨h3, b, o, c, e, hc, hr.below hb⟩
theorem LArg.slice (h : LArg w v xs) : ∃ p c, v = .slice p xs.length c := by
  rcases h.2 with ⟨rfl, p, c, rfl, _⟩ | ⟨_, b, o, c, rfl, _⟩
  · exact ⟨p, c, rfl⟩
  · exact ⟨_, c, rfl⟩
end

/-- Ints in a row of their own. -/
def IRow (w : World) (g : Nat) (ys : List Int) : Prop := ∃ fr, w.heap[g]? = some (.cells (ys.map (Value.int .i64)).toArray 3 fr)
theorem IRow.new (w : World) (ys : List Int) (cs : Array Value) (h : cs = (ys.map (Value.int .i64)).toArray) : IRow (w.alloc (.cells cs 3)) w.heap.size ys := ⟨_, by rw [h]; exact heap_alloc_new w _⟩
theorem IRow.arg {w : World} {g c : Nat} {ys : List Int} (h : IRow w g ys) (hy : ∀ x ∈ ys, In64 x) (hc : ys.length ≤ c) : LArg w (.slice (some ⟨g, 0, none⟩) ys.length c) ys := by
  obtain ⟨fr, h⟩ := h
  refine ⟨hy, ?_⟩
  rcases Nat.eq_zero_or_pos ys.length with h0 | h0
  · exact .inl ⟨List.eq_nil_of_length_eq_zero h0, _, c, by rw [h0], fun e => by cases e⟩
  · refine .inr ⟨h0, g, 0, c, rfl, hc, fun _ => ⟨?_, fun k hk => ?_⟩⟩
    · rcases Nat.lt_or_ge g w.heap.size with hl | hl
      · exact hl
      · rw [Array.getElem?_eq_none hl] at h; cases h
    · rw [Nat.zero_add, cell_of_row w g k _ _ _ h]
      simp [List.getD_eq_getElem?_getD, List.getElem?_eq_getElem hk]

end Go.Proofs.Ytholemjbjmkpkaa

/- Regions that draw their order, taken operation by operation, with any state that holds throughout. -/
namespace Go.Proofs.Ytholemjbjmkpkaa
open Go.RowKit Go.Joins

section
variable {ops : Array Oper} {Q : Exit → Act → World → Prop} {S : World → Prop} {fuel : Nat} {listed : Array Bool} {a : Act} {w : World}
theorem put_some {a : Act} (k : Nat) (v : Value) (d : Option Tmp) (hd : d = some k) : a.put d v = { a with tmps := a.tmps.setIfInBounds k v } := by subst hd; rfl
/-- An operation that yields in whatever world meets S is taken first. -/
theorem hTakeS {i k : Nat} {o : Oper} {v : Value} (hi : ops[i]? = some o) (hd : o.dst = some k) (hs : Region.noSelect ops = true) (hf : Region.free .any ops listed i = true) (hr : (Region.ready .any ops listed).contains i = true)
    (hQ : ∀ c a w, Q (.panic c) (a.put o.dst v) w → Q (.panic c) a w) (hy : YieldsIf Try.prog ops S o v a) (hS : S w)
    (h : wpAnyH Try.prog .any ops Q S fuel (listed.setIfInBounds i true) { a with tmps := a.tmps.setIfInBounds k v } w) : wpAnyH Try.prog .any ops Q S (fuel + 1) listed a w :=
  wpAnyH_take hi hs hf hr hQ hy hS (by rw [put_some k v _ hd]; exact h)
theorem yieldsIf_val {o : Oper} {v : Value} (hw : Region.wanted o (yielded ops a.tmps) = true) (h : ∀ W, (execOp a.eval o).run Try.prog W = .ok (.value v) W) : YieldsIf Try.prog ops S o v a := .inl ⟨hw, fun W _ => h W⟩
theorem yieldsIf_skip {o : Oper} (hw : Region.wanted o (yielded ops a.tmps) = false) : YieldsIf Try.prog ops S o undef a := .inr ⟨hw, rfl⟩
/-- The one operation that may come up now. -/
theorem hOneS {i k : Nat} {o : Oper} {v : Value} {w' : World} (hr : Region.ready .any ops listed = [i]) (ho : ops[i]? = some o) (hd : o.dst = some k) (hw : Region.wanted o (yielded ops a.tmps) = true) (hx : (execOp a.eval o).run Try.prog w = .ok (.value v) w') (hS : S w')
    (h : wpAnyH Try.prog .any ops Q S fuel (listed.setIfInBounds i true) { a with tmps := a.tmps.setIfInBounds k v } w') : wpAnyH Try.prog .any ops Q S (fuel + 1) listed a w := by
  refine wpAnyH_ready hr (by simp) (AllReadyH.cons ho (fun K hK => ?_) AllReadyH.nil)
  rw [if_pos hw]
  unfold Oper.wp
  rw [hx]
  exact hK _ _ hS (fun _ => by rw [put_some k v _ hd]; exact h)
theorem hOneNS {i : Nat} {o : Oper} {w' : World} (hr : Region.ready .any ops listed = [i]) (ho : ops[i]? = some o) (hd : o.dst = none) (hw : Region.wanted o (yielded ops a.tmps) = true) (hx : (execOp a.eval o).run Try.prog w = .ok .skip w') (hS : S w')
    (h : wpAnyH Try.prog .any ops Q S fuel (listed.setIfInBounds i true) a w') : wpAnyH Try.prog .any ops Q S (fuel + 1) listed a w := by
  refine wpAnyH_ready hr (by simp) (AllReadyH.cons ho (fun K hK => ?_) AllReadyH.nil)
  rw [if_pos hw]
  unfold Oper.wp
  rw [hx]
  exact hK _ _ hS (fun _ => by rw [hd]; exact h)
/-- A call, where nothing else may come up. -/
theorem hCallR {i k : Nat} {o : Oper} (hr : Region.ready .any ops listed = [i]) (ho : ops[i]? = some o) (hd : o.dst = some k) (hw : Region.wanted o (yielded ops a.tmps) = true) (f : FuncId) (args : Array Value)
    (hx : (execOp a.eval o).run Try.prog w = .ok (.enter f args) w) {R : Ending → World → Prop} (hc : Calls Try.prog f args w R)
    (h : ∀ e W', R e W' → ∃ v, e = .returned v ∧ S W' ∧ wpAnyH Try.prog .any ops Q S fuel (listed.setIfInBounds i true) { a with tmps := a.tmps.setIfInBounds k v } W') : wpAnyH Try.prog .any ops Q S (fuel + 1) listed a w := by
  refine wpAnyH_ready hr (by simp) (AllReadyH.cons ho (fun K hK => ?_) AllReadyH.nil)
  rw [if_pos hw]
  unfold Oper.wp
  rw [hx]
  refine hc.mono fun e W' hh => ?_
  obtain ⟨v, rfl, hS', hk⟩ := h e W' hh
  exact hK _ _ hS' (fun _ => by rw [put_some k v _ hd]; exact hk)
/-- A call, or an operation that yields. -/
theorem hCallOr {i j k m : Nat} {o p : Oper} {u : Value} {w2 : World} (hr : Region.ready .any ops listed = [i, j]) (ho : ops[i]? = some o) (hp : ops[j]? = some p) (hd : o.dst = some k) (hd2 : p.dst = some m) (hw : Region.wanted o (yielded ops a.tmps) = true) (hw2 : Region.wanted p (yielded ops a.tmps) = true) (f : FuncId) (args : Array Value)
    (hx : (execOp a.eval o).run Try.prog w = .ok (.enter f args) w) {R : Ending → World → Prop} (hc : Calls Try.prog f args w R)
    (hx2 : (execOp a.eval p).run Try.prog w = .ok (.value u) w2) (hS2 : S w2)
    (h : ∀ e W', R e W' → ∃ v, e = .returned v ∧ S W' ∧ wpAnyH Try.prog .any ops Q S fuel (listed.setIfInBounds i true) { a with tmps := a.tmps.setIfInBounds k v } W')
    (h2 : wpAnyH Try.prog .any ops Q S fuel (listed.setIfInBounds j true) { a with tmps := a.tmps.setIfInBounds m u } w2) : wpAnyH Try.prog .any ops Q S (fuel + 1) listed a w := by
  refine wpAnyH_ready hr (by simp) (AllReadyH.cons ho (fun K hK => ?_) (AllReadyH.cons hp (fun K hK => ?_) AllReadyH.nil))
  · rw [if_pos hw]
    unfold Oper.wp
    rw [hx]
    refine hc.mono fun e W' hh => ?_
    obtain ⟨v, rfl, hS', hk⟩ := h e W' hh
    exact hK _ _ hS' (fun _ => by rw [put_some k v _ hd]; exact hk)
  · rw [if_pos hw2]
    unfold Oper.wp
    rw [hx2]
    exact hK _ _ hS2 (fun _ => by rw [put_some m u _ hd2]; exact h2)
end

end Go.Proofs.Ytholemjbjmkpkaa

/- Which of two clocks is the better one, in plain numbers: rows of ints, the first that differs counts. No program is named here. -/
namespace Go.Proofs.Ytholemjbjmkpkaa

def c1 (a b : Int) : Int := if a < b then -1 else if b < a then 1 else 0
/-- The first that isn't zero. -/
def orC : List Int → Int
  | [] => 0
  | x :: l => if x = 0 then orC l else x
/-- The first that differs counts. -/
def lx : List Int → List Int → Int
  | a :: l, b :: m => if a < b then -1 else if b < a then 1 else lx l m
  | _, _ => 0
theorem orC_cons (x : Int) (l : List Int) : orC (x :: l) = if x = 0 then orC l else x := rfl
theorem orC_c1 (a b : Int) (l : List Int) : orC (c1 a b :: l) = if a < b then -1 else if b < a then 1 else orC l := by
  rw [orC_cons]; unfold c1
  split
  · rfl
  · split
    · rfl
    · rfl
theorem lx_cons (a b : Int) (l m : List Int) : lx (a :: l) (b :: m) = if a < b then -1 else if b < a then 1 else lx l m := rfl
theorem lx_nil : lx [] [] = 0 := rfl
theorem lx_self : ∀ l : List Int, lx l l = 0
  | [] => rfl
  | a :: l => by rw [lx_cons, if_neg (by omega), if_neg (by omega)]; exact lx_self l
theorem lx_vals : ∀ l m : List Int, lx l m = -1 ∨ lx l m = 0 ∨ lx l m = 1
  | [], [] => .inr (.inl rfl)
  | [], _ :: _ => .inr (.inl rfl)
  | _ :: _, [] => .inr (.inl rfl)
  | a :: l, b :: m => by
    rw [lx_cons]
    split
    · exact .inl rfl
    · split
      · exact .inr (.inr rfl)
      · exact lx_vals l m
theorem lx_anti : ∀ l m : List Int, lx l m = -lx m l
  | [], [] => rfl
  | [], _ :: _ => rfl
  | _ :: _, [] => rfl
  | a :: l, b :: m => by
    rw [lx_cons, lx_cons]
    have := lx_anti l m
    split
    · rw [if_neg (by omega)]
    · split
      · rfl
      · exact this
theorem lx_trans : ∀ l m n : List Int, l.length = m.length → m.length = n.length → lx l m < 0 → lx m n < 0 → lx l n < 0
  | [], [], [], _, _, h, _ => by simp [lx] at h
  | a :: l, b :: m, c :: n, h1, h2, h3, h4 => by
    rw [lx_cons] at h3 h4 ⊢
    have ih := lx_trans l m n (by simpa using h1) (by simpa using h2)
    split at h3
    · split at h4
      · rw [if_pos (by omega)]; decide
      · split at h4
        · omega
        · rw [if_pos (by omega)]; decide
    · split at h3
      · omega
      · split at h4
        · rw [if_pos (by omega)]; decide
        · split at h4
          · omega
          · rw [if_neg (by omega), if_neg (by omega)]; exact ih h3 h4
theorem lx_zero : ∀ l m : List Int, l.length = m.length → lx l m = 0 → l = m
  | [], [], _, _ => rfl
  | a :: l, b :: m, h, k => by
    rw [lx_cons] at k
    split at k
    · omega
    · split at k
      · omega
      · rw [lx_zero l m (by simpa using h) k, show a = b by omega]
theorem lx_le_trans {l m n : List Int} (h1 : l.length = m.length) (h2 : m.length = n.length) (h3 : lx l m ≤ 0) (h4 : lx m n ≤ 0) : lx l n ≤ 0 := by
  rcases Int.lt_or_eq_of_le h3 with a | a
  · rcases Int.lt_or_eq_of_le h4 with b | b
    · exact Int.le_of_lt (lx_trans l m n h1 h2 a b)
    · rw [← lx_zero m n h2 b]; exact h3
  · rw [lx_zero l m h1 a]; exact h4
theorem lx_lt_le {l m n : List Int} (h1 : l.length = m.length) (h2 : m.length = n.length) (h3 : lx l m < 0) (h4 : lx m n ≤ 0) : lx l n < 0 := by
  rcases Int.lt_or_eq_of_le h4 with b | b
  · exact lx_trans l m n h1 h2 h3 b
  · rw [← lx_zero m n h2 b]; exact h3
theorem lx_le_lt {l m n : List Int} (h1 : l.length = m.length) (h2 : m.length = n.length) (h3 : lx l m ≤ 0) (h4 : lx m n < 0) : lx l n < 0 := by
  rcases Int.lt_or_eq_of_le h3 with b | b
  · exact lx_trans l m n h1 h2 b h4
  · rw [lx_zero l m h1 b]; exact h4
theorem lx_append : ∀ l m l' m' : List Int, l.length = m.length → lx (l ++ l') (m ++ m') = if lx l m = 0 then lx l' m' else lx l m
  | [], [], l', m', _ => by rw [lx_nil, if_pos rfl]; rfl
  | a :: l, b :: m, l', m', h => by
    rw [List.cons_append, List.cons_append, lx_cons, lx_cons, lx_append l m l' m' (by simpa using h)]
    split
    · rfl
    · split
      · rfl
      · rfl

/-- A clock in plain numbers, and what is said of a best one. -/
structure Pri where
  one : Int
  cls : Int
  two : Int
  id : Int
structure Vc where
  r : Pri
  steps : Int
  from_ : Int
  port : Int
  at_ : Int
def Pri.row (p : Pri) : List Int := [p.one, p.cls, p.two, p.id]
def Vc.tail (v : Vc) : List Int := [v.steps, v.from_, v.port, v.at_]
def Vc.row (v : Vc) : List Int := [v.r.one, v.r.cls, v.r.two, v.r.id, v.steps, v.from_, v.port, v.at_]
def Pri.cmp (a b : Pri) : Int := lx a.row b.row
def Vc.cmp (a b : Vc) : Int := lx a.row b.row
theorem Vc.row_eq (v : Vc) : v.row = v.r.row ++ v.tail := rfl
theorem Vc.row_len (v : Vc) : v.row.length = 8 := rfl
theorem Pri.row_len (v : Pri) : v.row.length = 4 := rfl
theorem Vc.cmp_eq (a b : Vc) : a.cmp b = if a.r.cmp b.r = 0 then lx a.tail b.tail else a.r.cmp b.r := by
  unfold Vc.cmp Pri.cmp
  rw [Vc.row_eq, Vc.row_eq]
  exact lx_append _ _ _ _ rfl
theorem Pri.cmp_or (a b : Pri) : orC [c1 a.one b.one, c1 a.cls b.cls, c1 a.two b.two, c1 a.id b.id] = a.cmp b := by
  unfold Pri.cmp Pri.row
  rw [orC_c1, orC_c1, orC_c1, orC_c1, lx_cons, lx_cons, lx_cons, lx_cons, lx_nil]
  rfl
theorem Vc.cmp_or (a b : Vc) : orC [a.r.cmp b.r, c1 a.steps b.steps, c1 a.from_ b.from_, c1 a.port b.port, c1 a.at_ b.at_] = a.cmp b := by
  rw [Vc.cmp_eq, orC_cons, orC_c1, orC_c1, orC_c1, orC_c1]
  unfold Vc.tail
  rw [lx_cons, lx_cons, lx_cons, lx_cons, lx_nil]
  rfl
theorem c1_vals (a b : Int) : c1 a b = -1 ∨ c1 a b = 0 ∨ c1 a b = 1 := by
  unfold c1
  split
  · exact .inl rfl
  · split
    · exact .inr (.inr rfl)
    · exact .inr (.inl rfl)
theorem Pri.cmp_vals (a b : Pri) : a.cmp b = -1 ∨ a.cmp b = 0 ∨ a.cmp b = 1 := lx_vals _ _
theorem Vc.cmp_vals (a b : Vc) : a.cmp b = -1 ∨ a.cmp b = 0 ∨ a.cmp b = 1 := lx_vals _ _
theorem Pri.eq_of {a b : Pri} (h : a.cmp b = 0) : a = b := by
  have := lx_zero a.row b.row rfl h
  unfold Pri.row at this
  cases a; cases b
  simp at this
  obtain ⟨rfl, rfl, rfl, rfl⟩ := this
  rfl

end Go.Proofs.Ytholemjbjmkpkaa
