/- Package ptp: the document's example; laws at whole messages stored. -/
import Derived.Test.YtcdcklkbjfhhnaaPtEncA
import Derived.Test.YtcdcklkbjfhhnaaGSame
import Derived.Deep.DeepCutAuto
namespace Go.Proofs.Ytcdcklkbjfhhnaa
open Go.RowKit Go.Joins

theorem wpList_loadMG {ops : Array Oper} {rest : List Oper} {o : Oper} {a : Act} {w : World} {Q : Exit → Act → World → Prop} (hw : Region.wanted o (yielded ops a.tmps) = true) (x : Operand) (ho : o.op = .load 28 x)
    (g : Nat) (hx : a.eval x = .pointer (some ⟨g, 0, none⟩)) (cs : Array Value) (fr : Nat × Nat) (hg : w.heap[g]? = some (.cells cs 28 fr)) (hs : cs.size = 16)
    (h : wpList Try.prog ops Q rest (a.put o.dst (.agg cs)) w) : wpList Try.prog ops Q (o :: rest) a w :=
  BigFrame.wpList_want hw fun _ hK => wp_load_row 28 x ho g hx 28 cs fr _ hg Try.underlying28 rfl (by rw [hs]; kernel_rfl) (hK _ _ h)
theorem at_storeM {ops : Array Oper} {rest : List Oper} {d : Option Tmp} {x y : Operand} {t : TypeId} {s : String} {af : Array Edge} {a : Act} {w : World} {Q : Exit → Act → World → Prop}
    (h : wpList Try.prog ops Q (⟨d, .store 28 x y, t, s, af, none⟩ :: rest) a w) : wpList Try.prog ops Q (⟨d, .store 28 x y, t, s, af, none⟩ :: rest) a w := h
theorem wpList_storeM {ops : Array Oper} {rest : List Oper} {o : Oper} {a : Act} {w : World} {Q : Exit → Act → World → Prop} (hgd : o.guard = none) (x y : Operand) (ho : o.op = .store 28 x y)
    (g : Nat) (cells : Array Value) (hx : a.eval x = .pointer (some ⟨g, 0, none⟩)) (hy : a.eval y = .agg cells) (h1 : cells.all (·.oneCell') = true) (hs : cells.size = 16)
    (old : Array Value) (hg : w.heap[g]? = some (.cells old 28 (0, 0))) (hold : old.size = 16)
    (h : wpList Try.prog ops Q rest (a.put o.dst undef) (w.setRow g cells)) : wpList Try.prog ops Q (o :: rest) a w :=
  wpList_store_row hgd 28 x y ho g cells hx hy 28 old hg (by rw [hs]; kernel_rfl) (by rw [hold, hs]) h1 h
theorem setRow_newM (w : World) (cs cs' : Array Value) (t : TypeId) (fr : Nat × Nat) : (w.alloc (.cells cs t fr)).setRow w.heap.size cs' = w.alloc (.cells cs' t fr) := by
  have key : (w.heap.push (.cells cs t fr)).modify w.heap.size (fun | .cells _ elem frozen => .cells cs' elem frozen | o => o) = w.heap.push (.cells cs' t fr) := by
    apply Array.ext_getElem?
    intro i
    rw [Array.getElem?_modify]
    by_cases hi : w.heap.size = i
    · subst hi; simp
    · rw [if_neg hi, Array.getElem?_push, Array.getElem?_push, if_neg (fun e => hi e.symm), if_neg (fun e => hi e.symm)]
  exact congrArg (fun h => { w with heap := h }) key
theorem wpList_storeNM {ops : Array Oper} {rest : List Oper} {o : Oper} {a : Act} {w : World} {Q : Exit → Act → World → Prop} (hgd : o.guard = none) (x y : Operand) (ho : o.op = .store 28 x y) (g : Nat) (hg : g = w.heap.size)
    (cells old : Array Value) (hx : a.eval x = .pointer (some ⟨g, 0, none⟩)) (hy : a.eval y = .agg cells) (h1 : cells.all (·.oneCell') = true) (hs : cells.size = 16) (hold : old.size = 16)
    (h : wpList Try.prog ops Q rest (a.put o.dst undef) (w.alloc (.cells cells 28))) : wpList Try.prog ops Q (o :: rest) a (w.alloc (.cells old 28)) := by
  subst hg
  exact wpList_storeM hgd x y ho w.heap.size cells hx hy h1 hs old (heap_alloc_new w _) hold (by rw [setRow_newM]; exact h)

def Mg.first : Mg := { Mg.zero with seq := 1, src := 5, port := 2 }
def HC : Array Value := #[.int .i64 0, .int .i64 0, .int .i64 1, .int .i64 5, .int .i64 2, .int .i64 0, .int .i64 0, .int .i64 0, .int .i64 0, .int .i64 0, .int .i64 0, .int .i64 0, .int .i64 0, .int .i64 0, .int .i64 0, .slice none 0 0]
theorem Try.builtH : Try.prog.built 28 [(0, .int .i64 0), (2, .int .i64 1), (3, .int .i64 5), (4, .int .i64 2)] = some HC := by kernel_rfl
theorem first_text : Mg.first.text.length = 20 ∧ Mg.first.text.getD 0 0 = 16 ∧ Mg.first.text.getD 3 0 = 1 ∧ Mg.first.text.getD 9 0 = 5 ∧ Mg.first.text.getD 11 0 = 2 := by decide +kernel
theorem first_chk : Mg.first.chk = 0 := by decide +kernel
theorem lnil (w : World) : LArg w (.slice none 0 0) [] := ⟨fun x hx => by simp at hx, .inl ⟨rfl, none, 0, rfl, fun _ => rfl⟩⟩
theorem in64_0 : In64 0 := ⟨by decide, by decide⟩
theorem enc_head (w : World) : Calls Try.prog 9 #[.agg HC] w fun e w' => ∃ g c, e = .returned (.tuple #[.slice (some ⟨g, 0, none⟩) 20 c, .int .i64 0]) ∧ 20 ≤ c ∧ w'.cell? ⟨g, 0, none⟩ = some (.int .u8 16) ∧ w'.cell? ⟨g, 3, none⟩ = some (.int .u8 1) ∧ w'.cell? ⟨g, 9, none⟩ = some (.int .u8 5) ∧ w'.cell? ⟨g, 11, none⟩ = some (.int .u8 2) ∧ Below w.heap.size w w' := by
  have h := encode_any Mg.first (.slice none 0 0) w ⟨in64_0, in64_0, ⟨by decide, by decide⟩, ⟨by decide, by decide⟩, ⟨by decide, by decide⟩, in64_0, in64_0, in64_0, in64_0, in64_0, in64_0, in64_0, in64_0, in64_0, in64_0, fun x hx => by simp [Mg.first, Mg.zero] at hx⟩ (lnil w) (by decide)
  refine Calls.mono (R := EncPost w Mg.first) h fun e w' hh => ?_
  obtain ⟨hl, h0, h3, h9, h11⟩ := first_text
  rcases hh with ⟨_, v, rfl, hown⟩ | ⟨h1, _⟩
  · obtain ⟨g, c, rfl, hc, _⟩ := hown.form
    have c0 := hown.cell (k := 0) (by rw [hl]; decide)
    have c3 := hown.cell (k := 3) (by rw [hl]; decide)
    have c9 := hown.cell (k := 9) (by rw [hl]; decide)
    have c11 := hown.cell (k := 11) (by rw [hl]; decide)
    rw [h0] at c0
    rw [h3] at c3
    rw [h9] at c9
    rw [h11] at c11
    rw [hl] at hc ⊢
    exact ⟨g, c, rfl, hc, c0, c3, c9, c11, hown.bel⟩
  · exact absurd first_chk h1

theorem wpList_buildH {ops : Array Oper} {rest : List Oper} {o : Oper} {a : Act} {w : World} {Q : Exit → Act → World → Prop} (hg : o.guard = none) (ho : o.op = .build 28 #[(0, .const (.int .i64 0)), (2, .const (.int .i64 1)), (3, .const (.int .i64 5)), (4, .const (.int .i64 2))])
    (h : wpList Try.prog ops Q rest (a.put o.dst (.agg HC)) w) : wpList Try.prog ops Q (o :: rest) a w := by
  refine wpList_build hg 28 #[(0, .const (.int .i64 0)), (2, .const (.int .i64 1)), (3, .const (.int .i64 5)), (4, .const (.int .i64 2))] ho ?_ ?_
  · simp only [List.map_toArray, List.map_cons, List.map_nil]
    show (Try.prog.built 28 [(0, .int .i64 0), (2, .int .i64 1), (3, .int .i64 5), (4, .int .i64 2)]).isSome = true
    rw [Try.builtH]; rfl
  · simp only [List.map_toArray, List.map_cons, List.map_nil]
    show wpList Try.prog ops Q rest (a.put o.dst (.agg ((Try.prog.built 28 [(0, .int .i64 0), (2, .int .i64 1), (3, .int .i64 5), (4, .int .i64 2)]).getD #[]))) w
    rw [Try.builtH]; exact h
theorem at_buildH {ops : Array Oper} {rest : List Oper} {d : Option Tmp} {t : TypeId} {s : String} {af : Array Edge} {a : Act} {w : World} {x : Array (Nat × Operand)} {Q : Exit → Act → World → Prop}
    (h : wpList Try.prog ops Q (⟨d, .build 28 x, t, s, af, none⟩ :: rest) a w) : wpList Try.prog ops Q (⟨d, .build 28 x, t, s, af, none⟩ :: rest) a w := h

theorem head_ret : Ret 8 #[] (.bool true) := fun w => by
  have HE := Lib.hid (enc_head w)
  go_enter Try.func8, Try.ntmps8
  go_wp2_with (first
    | ((with_reducible refine at_buildH ?_); refine wpList_buildH rfl rfl ?_)
    | (go_at_call 9; (with_reducible refine HE.out.mono ?_); rintro e w1 ⟨g, c, rfl, hc, c0, c3, c9, c11, hb⟩))
  go_ret
  exact ⟨rfl, hb⟩

end Go.Proofs.Ytcdcklkbjfhhnaa
