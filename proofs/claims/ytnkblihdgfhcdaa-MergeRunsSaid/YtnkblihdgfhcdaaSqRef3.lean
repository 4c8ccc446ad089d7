/- The reference's In: a late number. -/
import Derived.Test.YtnkblihdgfhcdaaSqRef2
import Derived.OwnWalk
import Derived.Laws.OwnMore
import Derived.Laws.CopyOwn
namespace Go.Proofs.Ytnkblihdgfhcdaa
open Go.RowKit Go.Joins

theorem Try.infoI : (Try.prog.info? 3).map (fun i => (i.zero, i.size, i.bytes)) = some (some (.int .i64 0), 1, 8) := by kernel_rfl
def iv (xs : List Int) : List Value := xs.map (fun x => .int .i64 x)
theorem iv_len (xs : List Int) : (iv xs).length = xs.length := by simp [iv]
theorem iv_app (xs ys : List Int) : iv (xs ++ ys) = iv xs ++ iv ys := by simp [iv]
/-- A row of ints of the call's own. -/
def OI (B : Nat) (w : World) (v : Value) (xs : List Int) : Prop := w.ownsRow B 3 1 v xs.length (iv xs)
theorem OI.form {B : Nat} {w : World} {v : Value} {xs : List Int} (h : OI B w v xs) : ∃ p c, v = .slice p xs.length c := by
  rcases h.2 with ⟨rfl, hz⟩ | ⟨g, cap, cur, rfl, _⟩
  · exact ⟨none, 0, by rw [hz]⟩
  · exact ⟨_, _, rfl⟩
theorem OI.la {B : Nat} {w : World} {v : Value} {xs : List Int} (h : OI B w v xs) : LA w v xs := by
  have h' := h
  rcases h.2 with ⟨rfl, hz⟩ | ⟨g, cap, cur, rfl, hb, hg, hn, hm, hs, ht⟩
  · exact .inl ⟨List.eq_nil_of_length_eq_zero hz, none, 0, rfl⟩
  · rcases Nat.eq_zero_or_pos xs.length with h0 | h0
    · exact .inl ⟨List.eq_nil_of_length_eq_zero h0, some ⟨g, 0, none⟩, cap, by rw [h0]⟩
    · refine .inr ⟨h0, g, 0, cap, rfl, ⟨_, _, hg⟩, fun k hk => ?_⟩
      rw [Nat.zero_add, World.ownsRow.cellAt h' k (by omega)]
      simp [iv, List.getD_eq_getElem?_getD, List.getElem?_eq_getElem hk]
theorem OI.below {B : Nat} {w w' : World} {v : Value} {xs : List Int} (h : OI B w v xs) (hb : Below w.heap.size w w') : OI B w' v xs := by
  refine ⟨h.1, ?_⟩
  rcases h.2 with ⟨rfl, hz⟩ | ⟨g, cap, cur, rfl, a1, hg, a3⟩
  · exact .inl ⟨rfl, hz⟩
  · exact .inr ⟨g, cap, cur, rfl, a1, (hb.block _ (lt_of_heap hg)).trans hg, a3⟩
theorem OI.made {B : Nat} {w : World} {g : Nat} (hg : w.heap[g]? = some (.cells #[] 3 (0, 0))) (hB : B ≤ g) : OI B w (.slice (some ⟨g, 0, none⟩) 0 0) [] :=
  ⟨rfl, .inr ⟨g, 0, #[], rfl, hB, hg, Nat.le_refl _, Nat.zero_le _, rfl, rfl⟩⟩
theorem OI.one {B : Nat} {w : World} {g : Nat} {x : Int} (hg : w.heap[g]? = some (.cells #[.int .i64 x] 3 (0, 0))) (hB : B ≤ g) : OI B w (.slice (some ⟨g, 0, none⟩) 1 1) [x] :=
  ⟨rfl, .inr ⟨g, 1, _, rfl, hB, hg, Nat.le_refl _, by unfold maxLen; omega, rfl, rfl⟩⟩
theorem addn (b o i : Nat) : (⟨b, o, none⟩ : Addr).add i = ⟨b, o + i, none⟩ := by unfold Addr.add; split <;> simp_all
/-- Ints are appended to a row of the call's own. -/
theorem wpList_appI {ops : Array Oper} {rest : List Oper} {o : Oper} {a : Act} {w : World} {Q : Exit → Act → World → Prop} (hgd : o.guard = none) (s x : Operand)
    (ho : o.op = .call { callee := .builtin .append, args := #[s, x], argTypes := #[37, 37] })
    (B : Nat) (v u : Value) (xs ys : List Int) (hs : a.eval s = v) (hx : a.eval x = u) (hown : OI B w v xs) (hu : LA w u ys) (h0 : 0 < ys.length) (hB : B ≤ w.heap.size) (hl : xs.length + ys.length ≤ 1000)
    (h : ∀ v' w', OI B w' v' (xs ++ ys) → Below B w w' → wpList Try.prog ops Q rest (a.put o.dst v') w') : wpList Try.prog ops Q (o :: rest) a w := by
  obtain ⟨i0, hi, hz0, hz1, hz2⟩ := info_parts Try.infoI
  have hown' : w.ownsRow B 3 1 v xs.length (iv xs) := hown
  rcases hu with ⟨rfl, _⟩ | ⟨_, b, oo, c, rfl, hlt, hc⟩
  · simp at h0
  refine wpList_append_own _ hgd s x 37 ho B 3 i0 _ 1 8 Try.underlying37 hi hz0 hz1 hz2 rfl (by decide) v xs.length (iv xs) hs hown' ⟨b, oo, none⟩ ys.length c (iv ys) hx (by rw [iv_len]; omega) (fun j e he => ?_) (fun e he => ?_) (by unfold maxLen; omega) (by omega) hB ?_
  · have hj : j < ys.length := by
      have := (List.getElem?_eq_some_iff.1 he).1
      rwa [iv_len] at this
    rw [addn, hc j hj, ← he]
    simp [iv, List.getD_eq_getElem?_getD, List.getElem?_eq_getElem hj]
  · simp [iv] at he
    obtain ⟨y, _, rfl⟩ := he
    rfl
  · intro v' w' h1 h2 _
    refine h v' w' ?_ ((Below.refl B w).grown h2 hB (fun k hk => (hown'.lt k hk).1))
    have e : iv (xs ++ ys) = iv xs ++ iv ys := iv_app xs ys
    unfold OI
    rw [e, List.length_append]
    exact h1
theorem RB.cells {w : World} {g : Nat} {r : RQ} {v : Value} (h : RB w g r v) :
    (w.cell? ⟨g, 0, none⟩ = some (.int .i64 r.way) ∧ w.cell? ⟨g, 1, none⟩ = some (.int .i64 r.len) ∧ w.cell? ⟨g, 2, none⟩ = some (.int .i64 r.reset) ∧ w.cell? ⟨g, 3, none⟩ = some (.bool r.any) ∧ w.cell? ⟨g, 4, none⟩ = some (.int .i64 r.last) ∧ w.cell? ⟨g, 5, none⟩ = some v ∧ w.cell? ⟨g, 6, none⟩ = some (.int .i64 r.when) ∧ w.cell? ⟨g, 7, none⟩ = some (.int .i64 r.c0) ∧ w.cell? ⟨g, 8, none⟩ = some (.int .i64 r.c1) ∧ w.cell? ⟨g, 9, none⟩ = some (.int .i64 r.c2) ∧ w.cell? ⟨g, 10, none⟩ = some (.int .i64 r.c3) ∧ w.cell? ⟨g, 11, none⟩ = some (.int .i64 r.resets) ∧ w.cell? ⟨g, 12, none⟩ = some (.int .i64 r.lost)) ∧
    (w.frozen? ⟨g, 3, none⟩ = false ∧ w.frozen? ⟨g, 4, none⟩ = false ∧ w.frozen? ⟨g, 5, none⟩ = false ∧ w.frozen? ⟨g, 6, none⟩ = false ∧ w.frozen? ⟨g, 7, none⟩ = false ∧ w.frozen? ⟨g, 8, none⟩ = false ∧ w.frozen? ⟨g, 9, none⟩ = false ∧ w.frozen? ⟨g, 10, none⟩ = false ∧ w.frozen? ⟨g, 11, none⟩ = false ∧ w.frozen? ⟨g, 12, none⟩ = false) :=
  ⟨⟨cell_of_row _ _ _ _ _ _ h, cell_of_row _ _ _ _ _ _ h, cell_of_row _ _ _ _ _ _ h, cell_of_row _ _ _ _ _ _ h, cell_of_row _ _ _ _ _ _ h, cell_of_row _ _ _ _ _ _ h, cell_of_row _ _ _ _ _ _ h, cell_of_row _ _ _ _ _ _ h, cell_of_row _ _ _ _ _ _ h, cell_of_row _ _ _ _ _ _ h, cell_of_row _ _ _ _ _ _ h, cell_of_row _ _ _ _ _ _ h, cell_of_row _ _ _ _ _ _ h⟩,
    frozen_of_row _ _ _ _ _ h, frozen_of_row _ _ _ _ _ h, frozen_of_row _ _ _ _ _ h, frozen_of_row _ _ _ _ _ h, frozen_of_row _ _ _ _ _ h, frozen_of_row _ _ _ _ _ h, frozen_of_row _ _ _ _ _ h, frozen_of_row _ _ _ _ _ h, frozen_of_row _ _ _ _ _ h, frozen_of_row _ _ _ _ _ h⟩
section
variable {w : World} {g : Nat} {r : RQ} {v : Value}
theorem RB.set3 (h : RB w g r v) (x : Bool) : RB (w.setCell ⟨g, 3, none⟩ (.bool x)) g { r with any := x } v := heap_setCell_same w g 3 _ _ _ h
theorem RB.set4 (h : RB w g r v) (x : Int) : RB (w.setCell ⟨g, 4, none⟩ (.int .i64 x)) g { r with last := x } v := heap_setCell_same w g 4 _ _ _ h
theorem RB.set5 (h : RB w g r v) (u : Value) (xs : List Int) : RB (w.setCell ⟨g, 5, none⟩ u) g { r with had := xs } u := heap_setCell_same w g 5 _ _ _ h
theorem RB.set6 (h : RB w g r v) (x : Int) : RB (w.setCell ⟨g, 6, none⟩ (.int .i64 x)) g { r with when := x } v := heap_setCell_same w g 6 _ _ _ h
theorem RB.set7 (h : RB w g r v) (x : Int) : RB (w.setCell ⟨g, 7, none⟩ (.int .i64 x)) g { r with c0 := x } v := heap_setCell_same w g 7 _ _ _ h
theorem RB.set10 (h : RB w g r v) (x : Int) : RB (w.setCell ⟨g, 10, none⟩ (.int .i64 x)) g { r with c3 := x } v := heap_setCell_same w g 10 _ _ _ h
theorem RB.set12 (h : RB w g r v) (x : Int) : RB (w.setCell ⟨g, 12, none⟩ (.int .i64 x)) g { r with lost := x } v := heap_setCell_same w g 12 _ _ _ h
end
/-- Ahead of the reference's In's end: its box, its result's box, and what it has. -/
structure TailS (w : World) (r z : RQ) (v : Value) (W : World) : Prop where
  box : RB W w.heap.size r v
  res : RB W (w.heap.size + 1) z (.slice none 0 0)
  bel : Below w.heap.size w W
  la : OI (w.heap.size + 2) W v r.had
theorem OI.set {B : Nat} {w : World} {v : Value} {xs : List Int} (h : OI B w v xs) {g i : Nat} {x : Value} (hg : g < B) : OI B (w.setCell ⟨g, i, none⟩ x) v xs := by
  refine ⟨h.1, ?_⟩
  rcases h.2 with ⟨rfl, hz⟩ | ⟨g2, cap, cur, rfl, a1, hg2, a3⟩
  · exact .inl ⟨rfl, hz⟩
  · exact .inr ⟨g2, cap, cur, rfl, a1, (heap_setCell_other w _ g2 x (by show g2 ≠ g; omega)).trans hg2, a3⟩
theorem OI.row {B : Nat} {w : World} {v : Value} {xs : List Int} (h : OI B w v xs) {g : Nat} (cs : Array Value) (hg : g < B) : OI B (w.setRow g cs) v xs := by
  refine ⟨h.1, ?_⟩
  rcases h.2 with ⟨rfl, hz⟩ | ⟨g2, cap, cur, rfl, a1, hg2, a3⟩
  · exact .inl ⟨rfl, hz⟩
  · exact .inr ⟨g2, cap, cur, rfl, a1, (setRow_other w g g2 cs (by omega)).trans hg2, a3⟩
theorem RA_one (r : RQ) (p : Option Addr) (n c : Nat) : (RA r (.slice p n c)).all (·.oneCell') = true := by simp [RA, Value.oneCell']
theorem at_storeR {ops : Array Oper} {rest : List Oper} {d : Option Tmp} {x y : Operand} {t : TypeId} {s : String} {af : Array Edge} {a : Act} {w : World} {Q : Exit → Act → World → Prop}
    (h : wpList Try.prog ops Q (⟨d, .store 39 x y, t, s, af, none⟩ :: rest) a w) : wpList Try.prog ops Q (⟨d, .store 39 x y, t, s, af, none⟩ :: rest) a w := h
theorem at_loadR {ops : Array Oper} {rest : List Oper} {d : Option Tmp} {x : Operand} {t : TypeId} {s : String} {af : Array Edge} {a : Act} {w : World} {Q : Exit → Act → World → Prop}
    (h : wpList Try.prog ops Q (⟨d, .load 39 x, t, s, af, none⟩ :: rest) a w) : wpList Try.prog ops Q (⟨d, .load 39 x, t, s, af, none⟩ :: rest) a w := h
theorem wpList_storeR {ops : Array Oper} {rest : List Oper} {o : Oper} {a : Act} {w : World} {Q : Exit → Act → World → Prop} (hgd : o.guard = none) (x y : Operand) (ho : o.op = .store 39 x y)
    (g : Nat) (r r' : RQ) (p : Option Addr) (n c : Nat) (v' : Value) (hx : a.eval x = .pointer (some ⟨g, 0, none⟩)) (hy : a.eval y = RV r (.slice p n c)) (hg : RB w g r' v')
    (h : wpList Try.prog ops Q rest (a.put o.dst undef) (w.setRow g (RA r (.slice p n c)))) : wpList Try.prog ops Q (o :: rest) a w :=
  wpList_store_row hgd 39 x y ho g (RA r (.slice p n c)) hx hy 39 _ hg (by kernel_rfl) rfl (RA_one r p n c) h
theorem wpList_loadR {ops : Array Oper} {rest : List Oper} {o : Oper} {a : Act} {w : World} {Q : Exit → Act → World → Prop} (hgd : o.guard = none) (x : Operand) (ho : o.op = .load 39 x)
    (g : Nat) (r : RQ) (v : Value) (hx : a.eval x = .pointer (some ⟨g, 0, none⟩)) (hg : RB w g r v)
    (h : wpList Try.prog ops Q rest (a.put o.dst (RV r v)) w) : wpList Try.prog ops Q (o :: rest) a w :=
  wpList_load_row hgd 39 x ho g hx 39 _ (0, 0) _ hg Try.underlying39 rfl (by kernel_rfl) h

theorem at_app1 {ops : Array Oper} {rest : List Oper} {d : Option Tmp} {t : TypeId} {s : String} {af : Array Edge} {a : Act} {w : World} {Q : Exit → Act → World → Prop}
    (h : wpList Try.prog ops Q (⟨d, .call { callee := .builtin .append, args := #[.tmp 107, .tmp 109], argTypes := #[37, 37] }, t, s, af, none⟩ :: rest) a w) : wpList Try.prog ops Q (⟨d, .call { callee := .builtin .append, args := #[.tmp 107, .tmp 109], argTypes := #[37, 37] }, t, s, af, none⟩ :: rest) a w := h
theorem at_app2 {ops : Array Oper} {rest : List Oper} {d : Option Tmp} {t : TypeId} {s : String} {af : Array Edge} {a : Act} {w : World} {Q : Exit → Act → World → Prop}
    (h : wpList Try.prog ops Q (⟨d, .call { callee := .builtin .append, args := #[.tmp 110, .tmp 113], argTypes := #[37, 37] }, t, s, af, none⟩ :: rest) a w) : wpList Try.prog ops Q (⟨d, .call { callee := .builtin .append, args := #[.tmp 110, .tmp 113], argTypes := #[37, 37] }, t, s, af, none⟩ :: rest) a w := h
theorem at_app3 {ops : Array Oper} {rest : List Oper} {d : Option Tmp} {t : TypeId} {s : String} {af : Array Edge} {a : Act} {w : World} {Q : Exit → Act → World → Prop}
    (h : wpList Try.prog ops Q (⟨d, .call { callee := .builtin .append, args := #[.tmp 53, .tmp 57], argTypes := #[37, 37] }, t, s, af, none⟩ :: rest) a w) : wpList Try.prog ops Q (⟨d, .call { callee := .builtin .append, args := #[.tmp 53, .tmp 57], argTypes := #[37, 37] }, t, s, af, none⟩ :: rest) a w := h

end Go.Proofs.Ytnkblihdgfhcdaa
