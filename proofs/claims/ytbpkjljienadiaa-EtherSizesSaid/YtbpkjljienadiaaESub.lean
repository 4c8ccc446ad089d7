/- Package ether: parts of bytes that are read; what a text tells. -/
import Derived.Test.YtbpkjljienadiaaEEnc
import Derived.Laws.CopyOwn
import Derived.Deep.RegionWith
namespace Go.Proofs.Ytbpkjljienadiaa
open Go.RowKit Go.Joins

/-- A part of the bytes of a block. -/
def SubB (w : World) (g : Nat) (v : Value) (ys : List Nat) : Prop :=
  Crc.Bytes ys ∧ g < w.heap.size ∧ ∃ o c, v = .slice (some ⟨g, o, none⟩) ys.length c ∧ ys.length ≤ c ∧ ∀ k, k < ys.length → w.cell? ⟨g, o + k, none⟩ = some (.int .u8 ((ys.getD k 0 : Nat) : Int))
theorem SubB.arg {w : World} {g : Nat} {v : Value} {ys : List Nat} (h : SubB w g v ys) : BArg w v ys := by
  obtain ⟨h1, h2, o, c, rfl, hc, hk⟩ := h
  refine ⟨h1, ?_⟩
  rcases Nat.eq_zero_or_pos ys.length with h0 | h0
  · exact .inl ⟨List.eq_nil_of_length_eq_zero h0, _, c, by rw [h0], fun e => by cases e⟩
  · exact .inr ⟨h0, g, o, c, rfl, hc, fun _ => ⟨h2, hk⟩⟩
theorem SubB.below {w w' : World} {g : Nat} {v : Value} {ys : List Nat} (h : SubB w g v ys) (hb : Below w.heap.size w w') : SubB w' g v ys := by
  obtain ⟨h1, h2, o, c, rfl, hc, hk⟩ := h
  exact ⟨h1, Nat.lt_of_lt_of_le h2 hb.size, o, c, rfl, hc, fun k h => (hb.cell h2).trans (hk k h)⟩

/-- The number at a place. -/
def NumAt (w : World) (g o K : Nat) : Prop := ∀ (W : World) (cc : Nat), Below w.heap.size w W → 2 ≤ cc → Calls Try.prog 33 #[.slice (some ⟨g, o, none⟩) 2 cc] W fun e w' => e = .returned (.int .i64 (K : Int)) ∧ W = w'
theorem NumAt.go {w : World} {g o K : Nat} (h : NumAt w g o K) (W : World) (cc : Nat) (hb : Below w.heap.size w W) (hc : 2 ≤ cc) : Calls Try.prog 33 #[.slice (some ⟨g, o, none⟩) 2 cc] W fun e w' => e = .returned (.int .i64 (K : Int)) ∧ W = w' := h W cc hb hc
theorem numAt {w : World} {g : Nat} {xs : List Nat} (hx : Crc.Bytes xs) (hr : Rd w g 0 xs) (o : Nat) (ho : o + 2 ≤ xs.length) : NumAt w g o (num [xs.getD o 0, xs.getD (o + 1) 0]) := fun W cc hb hc => by
  refine number_any (xs := [xs.getD o 0, xs.getD (o + 1) 0]) ⟨?_, .inr ⟨by simp, g, o, cc, rfl, hc, fun _ => ?_⟩⟩ (by simp)
  · intro x hm
    simp at hm
    have h1 := Crc.getD_byte hx o
    have h2 := Crc.getD_byte hx (o + 1)
    rcases hm with rfl | rfl
    · simpa [List.getD_eq_getElem?_getD] using h1
    · simpa [List.getD_eq_getElem?_getD] using h2
  · obtain ⟨hlt, hcell⟩ := hr (by omega)
    refine ⟨Nat.lt_of_lt_of_le hlt hb.size, fun k hk => ?_⟩
    have hk2 : k = 0 ∨ k = 1 := by simp at hk; omega
    rw [hb.cell hlt]
    rcases hk2 with rfl | rfl
    · have := hcell o (by omega); rw [Nat.zero_add] at this; exact this
    · have := hcell (o + 1) (by omega); rw [Nat.zero_add] at this; exact this

theorem heap3 (w : World) (A B C : Obj) : (((w.alloc A).alloc B).alloc C).heap[w.heap.size + 1 + 1]? = some C := by
  have := heap_alloc_new ((w.alloc A).alloc B) C
  simpa using this
theorem heap3a (w : World) (A B C : Obj) : (((w.alloc A).alloc B).alloc C).heap[w.heap.size]? = some A := by
  show ((w.heap.push A).push B |>.push C)[w.heap.size]? = some A
  rw [Array.getElem?_push, if_neg (by simp; omega), Array.getElem?_push, if_neg (by simp), Array.getElem?_push, if_pos rfl]
theorem setRow_top (w : World) (A B : Obj) (cs cs' : Array Value) (t : TypeId) (fr : Nat × Nat) : (((w.alloc A).alloc B).alloc (.cells cs t fr)).setRow (w.heap.size + 1 + 1) cs' = ((w.alloc A).alloc B).alloc (.cells cs' t fr) := by
  have e : w.heap.size + 1 + 1 = ((w.alloc A).alloc B).heap.size := by simp
  rw [e]
  generalize (w.alloc A).alloc B = w2
  have key : (w2.heap.push (.cells cs t fr)).modify w2.heap.size (fun | .cells _ elem frozen => .cells cs' elem frozen | o => o) = w2.heap.push (.cells cs' t fr) := by
    apply Array.ext_getElem?
    intro i
    rw [Array.getElem?_modify]
    by_cases hi : w2.heap.size = i
    · subst hi; simp
    · rw [if_neg hi, Array.getElem?_push, Array.getElem?_push, if_neg (fun e => hi e.symm), if_neg (fun e => hi e.symm)]
  exact congrArg (fun h => { w2 with heap := h }) key

theorem heap3d (w : World) (A B C : Obj) : (((w.alloc A).alloc B).alloc C).drew.drew.heap[w.heap.size + 1 + 1]? = some C := heap3 w A B C
theorem heap3ad (w : World) (A B C : Obj) : (((w.alloc A).alloc B).alloc C).drew.drew.heap[w.heap.size]? = some A := heap3a w A B C
/-- A frame's cells are one cell each. -/
theorem frame_one (a0 a1 a2 a3 a4 a5 a6 a7 a8 a9 a10 a11 vid prio seq typ : Int) (tg dr mn : Bool) (p : Option Addr) (n c : Nat) :
    (#[.int .u8 a0, .int .u8 a1, .int .u8 a2, .int .u8 a3, .int .u8 a4, .int .u8 a5, .int .u8 a6, .int .u8 a7, .int .u8 a8, .int .u8 a9, .int .u8 a10, .int .u8 a11, .bool tg, .int .i64 vid, .int .i64 prio, .bool dr, .bool mn, .int .i64 seq, .int .i64 typ, .slice p n c] : Array Value).all (·.oneCell') = true := by
  simp [Value.oneCell']

/-- A whole frame stored. -/
theorem wpList_storeF {ops : Array Oper} {rest : List Oper} {o : Oper} {a : Act} {w : World} {Q : Exit → Act → World → Prop} (hgd : o.guard = none) (x y : Operand) (ho : o.op = .store 26 x y)
    (g : Nat) (cells : Array Value) (hx : a.eval x = .pointer (some ⟨g, 0, none⟩)) (hy : a.eval y = .agg cells) (h1 : cells.all (·.oneCell') = true) (hs : cells.size = 20)
    (old : Array Value) (hg : w.heap[g]? = some (.cells old 26 (0, 0))) (hold : old.size = 20)
    (h : wpList Try.prog ops Q rest (a.put o.dst undef) (w.setRow g cells)) : wpList Try.prog ops Q (o :: rest) a w :=
  wpList_store_row hgd 26 x y ho g cells hx hy 26 old hg (by rw [hs]; kernel_rfl) (by rw [hold, hs]) h1 h
theorem bodyF {fn : Func} {R : Ending → World → Prop} {a : Act} {w : World} {p : Tmp} (h : fn.results = #[.cell p 26]) (g : Nat) (cells : Array Value) (hp : a.tmps.getD p undef = .pointer (some ⟨g, 0, none⟩))
    (hg : w.heap[g]? = some (.cells cells 26 (0, 0))) (hs : cells.size = 20) (hd : a.defers = []) (hr : R (.returned (.agg cells)) w) : bodyPost Try.prog fn R Exit.ret a w :=
  bodyPost_ret (results_cell_row h _ w g 26 cells (0, 0) _ hp hg Try.underlying26 rfl (by rw [hs]; kernel_rfl)) hd hr

/-- A part of so many elements from a place on. -/
def CutAt (g a L : Nat) (v : Value) : Prop := ∃ o cc, v = .slice (some ⟨g, o, none⟩) L cc ∧ L ≤ cc ∧ (0 < L → o = a)
theorem cutAt {g a L o n cc : Nat} (hn : n = L) (hc : n ≤ cc) (ho : 0 < L → o = a) : CutAt g a L (.slice (some ⟨g, o, none⟩) n cc) := by
  subst hn; exact ⟨o, cc, rfl, hc, ho⟩

end Go.Proofs.Ytbpkjljienadiaa
