/- Arguments that are structs, or slices of them: what is read of them. -/
import Derived.Test.YtnkblihdgfhcdaaSqMem
import Derived.Test.YtnkblihdgfhcdaaPost
import Derived.Deep.Slices
import Derived.Deep.Fields
namespace Go.Proofs.Ytnkblihdgfhcdaa
open Go.RowKit Go.WideShapes Go.ChangeShapes Go.ChangeAt Go.Joins Go.Deep

/-- An int that fits. -/
def In64 (x : Int) : Prop := -9223372036854775808 ≤ x ∧ x < 9223372036854775808
theorem Try.laidOut : laidOutB Try.prog = true := by kernel_rfl
theorem block_of_cell {w : World} {a : Addr} {v : Value} (h : w.cell? a = some v) : a.block < w.heap.size := World.block_lt_of_cell? _ _ h
theorem add_flat (b o i : Nat) : (⟨b, o, none⟩ : Addr).add i = ⟨b, o + i, none⟩ := by unfold Addr.add; split <;> simp_all
theorem nat_of_u8 {n : Int} (h : (Lit.int .u8 n).wf = true) : ∃ x : Nat, n = (x : Int) ∧ x < 256 := by
  have := bounds_u8 h
  exact ⟨n.toNat, by omega, by omega⟩
theorem in_of_wf {n : Int} (h : (Lit.int .i64 n).wf = true) : In64 n := by
  have := bounds_i64 h
  exact ⟨by omega, by omega⟩
theorem Try.czint : Try.prog.cellsOf 3 = 1 := by kernel_rfl
theorem Try.czbool : Try.prog.cellsOf 4 = 1 := by kernel_rfl
theorem Try.czseqrConf : Try.prog.cellsOf 23 = 3 := by kernel_rfl
theorem Try.czsandglasslaw13Step : Try.prog.cellsOf 42 = 2 := by kernel_rfl
theorem Try.czmergeConf : Try.prog.cellsOf 59 = 9 := by kernel_rfl
theorem Try.czsandglasslaw14Step : Try.prog.cellsOf 70 = 4 := by kernel_rfl

section
variable {H : Type} {enc : TypeId × Value → H} {w : World} {base : Nat} {spare : Nat → Bool} {held : Bool}
set_option maxHeartbeats 1000000 in
theorem rd_seqrConf {n : Nat} {c0 c1 c2 : Value} {x : DataW H × List MemPlace} (h : DataW.trod enc Try.prog w base spare held n 23 [c0, c1, c2] = some x) :
    ∃ (z0 : Int) (z1 : Int) (z2 : Int), c0 = .int .i64 z0 ∧ c1 = .int .i64 z1 ∧ c2 = .int .i64 z2 ∧ In64 z0 ∧ In64 z1 ∧ In64 z2 := by
  obtain ⟨xs, m, _, _, _, hl, hall⟩ := DataW.trod_struct Try.underlying23 h
  have hx : ∀ i, i < 3 → ∃ y, xs[i]? = some y := fun i hi => ⟨xs[i]'(by rw [hl]; exact hi), List.getElem?_eq_getElem _⟩
  obtain ⟨y0, hy0⟩ := hx 0 (by omega)
  have t0 := hall 0 _ rfl
  rw [hy0] at t0
  have u0 : DataW.trod enc Try.prog w base spare held m 3 [c0] = some y0 := by
    have e : DataW.trod enc Try.prog w base spare held m 3 ((List.drop 0 [c0, c1, c2]).take (Try.prog.cellsOf 3)) = some y0 := t0
    rw [Try.czint] at e
    exact e
  clear t0
  obtain ⟨z0, g0, _, w0⟩ := DataW.trod_int Try.underlying3 u0
  injection g0 with g0
  obtain ⟨y1, hy1⟩ := hx 1 (by omega)
  have t1 := hall 1 _ rfl
  rw [hy1] at t1
  have u1 : DataW.trod enc Try.prog w base spare held m 3 [c1] = some y1 := by
    have e : DataW.trod enc Try.prog w base spare held m 3 ((List.drop 1 [c0, c1, c2]).take (Try.prog.cellsOf 3)) = some y1 := t1
    rw [Try.czint] at e
    exact e
  clear t1
  obtain ⟨z1, g1, _, w1⟩ := DataW.trod_int Try.underlying3 u1
  injection g1 with g1
  obtain ⟨y2, hy2⟩ := hx 2 (by omega)
  have t2 := hall 2 _ rfl
  rw [hy2] at t2
  have u2 : DataW.trod enc Try.prog w base spare held m 3 [c2] = some y2 := by
    have e : DataW.trod enc Try.prog w base spare held m 3 ((List.drop 2 [c0, c1, c2]).take (Try.prog.cellsOf 3)) = some y2 := t2
    rw [Try.czint] at e
    exact e
  clear t2
  obtain ⟨z2, g2, _, w2⟩ := DataW.trod_int Try.underlying3 u2
  injection g2 with g2
  exact ⟨z0, z1, z2, g0, g1, g2, in_of_wf w0, in_of_wf w1, in_of_wf w2⟩
set_option maxHeartbeats 1000000 in
theorem rd_sandglasslaw13Step {n : Nat} {c0 c1 : Value} {x : DataW H × List MemPlace} (h : DataW.trod enc Try.prog w base spare held n 42 [c0, c1] = some x) :
    ∃ (z0 : Int) (z1 : Int), c0 = .int .i64 z0 ∧ c1 = .int .i64 z1 ∧ In64 z0 ∧ In64 z1 := by
  obtain ⟨xs, m, _, _, _, hl, hall⟩ := DataW.trod_struct Try.underlying42 h
  have hx : ∀ i, i < 2 → ∃ y, xs[i]? = some y := fun i hi => ⟨xs[i]'(by rw [hl]; exact hi), List.getElem?_eq_getElem _⟩
  obtain ⟨y0, hy0⟩ := hx 0 (by omega)
  have t0 := hall 0 _ rfl
  rw [hy0] at t0
  have u0 : DataW.trod enc Try.prog w base spare held m 3 [c0] = some y0 := by
    have e : DataW.trod enc Try.prog w base spare held m 3 ((List.drop 0 [c0, c1]).take (Try.prog.cellsOf 3)) = some y0 := t0
    rw [Try.czint] at e
    exact e
  clear t0
  obtain ⟨z0, g0, _, w0⟩ := DataW.trod_int Try.underlying3 u0
  injection g0 with g0
  obtain ⟨y1, hy1⟩ := hx 1 (by omega)
  have t1 := hall 1 _ rfl
  rw [hy1] at t1
  have u1 : DataW.trod enc Try.prog w base spare held m 3 [c1] = some y1 := by
    have e : DataW.trod enc Try.prog w base spare held m 3 ((List.drop 1 [c0, c1]).take (Try.prog.cellsOf 3)) = some y1 := t1
    rw [Try.czint] at e
    exact e
  clear t1
  obtain ⟨z1, g1, _, w1⟩ := DataW.trod_int Try.underlying3 u1
  injection g1 with g1
  exact ⟨z0, z1, g0, g1, in_of_wf w0, in_of_wf w1⟩
set_option maxHeartbeats 1000000 in
theorem rd_mergeConf {n : Nat} {c0 c1 c2 c3 c4 c5 c6 c7 c8 : Value} {x : DataW H × List MemPlace} (h : DataW.trod enc Try.prog w base spare held n 59 [c0, c1, c2, c3, c4, c5, c6, c7, c8] = some x) :
    ∃ (z0 : Int) (z1 : Int) (z2 : Int) (z3 : Int) (z4 : Int) (z5 : Int) (z6 : Int) (z7 : Int) (z8 : Int), c0 = .int .i64 z0 ∧ c1 = .int .i64 z1 ∧ c2 = .int .i64 z2 ∧ c3 = .int .i64 z3 ∧ c4 = .int .i64 z4 ∧ c5 = .int .i64 z5 ∧ c6 = .int .i64 z6 ∧ c7 = .int .i64 z7 ∧ c8 = .int .i64 z8 ∧ In64 z0 ∧ In64 z1 ∧ In64 z2 ∧ In64 z3 ∧ In64 z4 ∧ In64 z5 ∧ In64 z6 ∧ In64 z7 ∧ In64 z8 := by
  obtain ⟨xs, m, _, _, _, hl, hall⟩ := DataW.trod_struct Try.underlying59 h
  have hx : ∀ i, i < 5 → ∃ y, xs[i]? = some y := fun i hi => ⟨xs[i]'(by rw [hl]; exact hi), List.getElem?_eq_getElem _⟩
  obtain ⟨y0, hy0⟩ := hx 0 (by omega)
  have t0 := hall 0 _ rfl
  rw [hy0] at t0
  have u0 : DataW.trod enc Try.prog w base spare held m 3 [c0] = some y0 := by
    have e : DataW.trod enc Try.prog w base spare held m 3 ((List.drop 0 [c0, c1, c2, c3, c4, c5, c6, c7, c8]).take (Try.prog.cellsOf 3)) = some y0 := t0
    rw [Try.czint] at e
    exact e
  clear t0
  obtain ⟨z0, g0, _, w0⟩ := DataW.trod_int Try.underlying3 u0
  injection g0 with g0
  obtain ⟨y1, hy1⟩ := hx 1 (by omega)
  have t1 := hall 1 _ rfl
  rw [hy1] at t1
  have u1 : DataW.trod enc Try.prog w base spare held m 23 [c1, c2, c3] = some y1 := by
    have e : DataW.trod enc Try.prog w base spare held m 23 ((List.drop 1 [c0, c1, c2, c3, c4, c5, c6, c7, c8]).take (Try.prog.cellsOf 23)) = some y1 := t1
    rw [Try.czseqrConf] at e
    exact e
  clear t1
  obtain ⟨z1, z2, z3, g1, g2, g3, b1, b2, b3⟩ := rd_seqrConf u1
  obtain ⟨y2, hy2⟩ := hx 2 (by omega)
  have t2 := hall 2 _ rfl
  rw [hy2] at t2
  have u2 : DataW.trod enc Try.prog w base spare held m 23 [c4, c5, c6] = some y2 := by
    have e : DataW.trod enc Try.prog w base spare held m 23 ((List.drop 4 [c0, c1, c2, c3, c4, c5, c6, c7, c8]).take (Try.prog.cellsOf 23)) = some y2 := t2
    rw [Try.czseqrConf] at e
    exact e
  clear t2
  obtain ⟨z4, z5, z6, g4, g5, g6, b4, b5, b6⟩ := rd_seqrConf u2
  obtain ⟨y3, hy3⟩ := hx 3 (by omega)
  have t3 := hall 3 _ rfl
  rw [hy3] at t3
  have u3 : DataW.trod enc Try.prog w base spare held m 3 [c7] = some y3 := by
    have e : DataW.trod enc Try.prog w base spare held m 3 ((List.drop 7 [c0, c1, c2, c3, c4, c5, c6, c7, c8]).take (Try.prog.cellsOf 3)) = some y3 := t3
    rw [Try.czint] at e
    exact e
  clear t3
  obtain ⟨z7, g7, _, w7⟩ := DataW.trod_int Try.underlying3 u3
  injection g7 with g7
  obtain ⟨y4, hy4⟩ := hx 4 (by omega)
  have t4 := hall 4 _ rfl
  rw [hy4] at t4
  have u4 : DataW.trod enc Try.prog w base spare held m 3 [c8] = some y4 := by
    have e : DataW.trod enc Try.prog w base spare held m 3 ((List.drop 8 [c0, c1, c2, c3, c4, c5, c6, c7, c8]).take (Try.prog.cellsOf 3)) = some y4 := t4
    rw [Try.czint] at e
    exact e
  clear t4
  obtain ⟨z8, g8, _, w8⟩ := DataW.trod_int Try.underlying3 u4
  injection g8 with g8
  exact ⟨z0, z1, z2, z3, z4, z5, z6, z7, z8, g0, g1, g2, g3, g4, g5, g6, g7, g8, in_of_wf w0, b1, b2, b3, b4, b5, b6, in_of_wf w7, in_of_wf w8⟩
set_option maxHeartbeats 1000000 in
theorem rd_sandglasslaw14Step {n : Nat} {c0 c1 c2 c3 : Value} {x : DataW H × List MemPlace} (h : DataW.trod enc Try.prog w base spare held n 70 [c0, c1, c2, c3] = some x) :
    ∃ (z0 : Bool) (z1 : Int) (z2 : Int) (z3 : Int), c0 = .bool z0 ∧ c1 = .int .i64 z1 ∧ c2 = .int .i64 z2 ∧ c3 = .int .i64 z3 ∧ In64 z1 ∧ In64 z2 ∧ In64 z3 := by
  obtain ⟨xs, m, _, _, _, hl, hall⟩ := DataW.trod_struct Try.underlying70 h
  have hx : ∀ i, i < 4 → ∃ y, xs[i]? = some y := fun i hi => ⟨xs[i]'(by rw [hl]; exact hi), List.getElem?_eq_getElem _⟩
  obtain ⟨y0, hy0⟩ := hx 0 (by omega)
  have t0 := hall 0 _ rfl
  rw [hy0] at t0
  have u0 : DataW.trod enc Try.prog w base spare held m 4 [c0] = some y0 := by
    have e : DataW.trod enc Try.prog w base spare held m 4 ((List.drop 0 [c0, c1, c2, c3]).take (Try.prog.cellsOf 4)) = some y0 := t0
    rw [Try.czbool] at e
    exact e
  clear t0
  obtain ⟨z0, g0, _⟩ := DataW.trod_bool Try.underlying4 u0
  injection g0 with g0
  obtain ⟨y1, hy1⟩ := hx 1 (by omega)
  have t1 := hall 1 _ rfl
  rw [hy1] at t1
  have u1 : DataW.trod enc Try.prog w base spare held m 3 [c1] = some y1 := by
    have e : DataW.trod enc Try.prog w base spare held m 3 ((List.drop 1 [c0, c1, c2, c3]).take (Try.prog.cellsOf 3)) = some y1 := t1
    rw [Try.czint] at e
    exact e
  clear t1
  obtain ⟨z1, g1, _, w1⟩ := DataW.trod_int Try.underlying3 u1
  injection g1 with g1
  obtain ⟨y2, hy2⟩ := hx 2 (by omega)
  have t2 := hall 2 _ rfl
  rw [hy2] at t2
  have u2 : DataW.trod enc Try.prog w base spare held m 3 [c2] = some y2 := by
    have e : DataW.trod enc Try.prog w base spare held m 3 ((List.drop 2 [c0, c1, c2, c3]).take (Try.prog.cellsOf 3)) = some y2 := t2
    rw [Try.czint] at e
    exact e
  clear t2
  obtain ⟨z2, g2, _, w2⟩ := DataW.trod_int Try.underlying3 u2
  injection g2 with g2
  obtain ⟨y3, hy3⟩ := hx 3 (by omega)
  have t3 := hall 3 _ rfl
  rw [hy3] at t3
  have u3 : DataW.trod enc Try.prog w base spare held m 3 [c3] = some y3 := by
    have e : DataW.trod enc Try.prog w base spare held m 3 ((List.drop 3 [c0, c1, c2, c3]).take (Try.prog.cellsOf 3)) = some y3 := t3
    rw [Try.czint] at e
    exact e
  clear t3
  obtain ⟨z3, g3, _, w3⟩ := DataW.trod_int Try.underlying3 u3
  injection g3 with g3
  exact ⟨z0, z1, z2, z3, g0, g1, g2, g3, in_of_wf w1, in_of_wf w2, in_of_wf w3⟩
end
theorem row_of2 {l : List Value} (h : l.length = 2) : ∃ c0 c1, l = [c0, c1] := by
  match l, h with
  | [c0, c1], _ => exact ⟨c0, c1, rfl⟩
theorem row_of3 {l : List Value} (h : l.length = 3) : ∃ c0 c1 c2, l = [c0, c1, c2] := by
  match l, h with
  | [c0, c1, c2], _ => exact ⟨c0, c1, c2, rfl⟩
theorem row_of4 {l : List Value} (h : l.length = 4) : ∃ c0 c1 c2 c3, l = [c0, c1, c2, c3] := by
  match l, h with
  | [c0, c1, c2, c3], _ => exact ⟨c0, c1, c2, c3, rfl⟩
theorem row_of9 {l : List Value} (h : l.length = 9) : ∃ c0 c1 c2 c3 c4 c5 c6 c7 c8, l = [c0, c1, c2, c3, c4, c5, c6, c7, c8] := by
  match l, h with
  | [c0, c1, c2, c3, c4, c5, c6, c7, c8], _ => exact ⟨c0, c1, c2, c3, c4, c5, c6, c7, c8, rfl⟩
section
variable {H : Type} {enc : TypeId × Value → H} {w : World} {base : Nat} {spare : Nat → Bool} {held : Bool}
theorem open_seqrConf {r : Reach} {b0 : Nat} {v : Value} {d : DataW H} {p : List MemPlace} (hv : Value.okWide Try.prog w r b0 23 v) (h : DataW.Trod enc Try.prog w base spare held 23 v d p) :
    ∃ (z0 : Int) (z1 : Int) (z2 : Int), v = .agg #[.int .i64 z0, .int .i64 z1, .int .i64 z2] ∧ In64 z0 ∧ In64 z1 ∧ In64 z2 := by
  have hrow : ∃ cs, v = .agg cs ∧ cs.size = Try.prog.cellsOf 23 ∧ Row.okWide Try.prog w r b0 23 cs := by
    simp only [Value.okWide, Try.underlying23] at hv
    exact hv
  obtain ⟨⟨l⟩, rfl, hsz, _⟩ := hrow
  obtain ⟨c0, c1, c2, rfl⟩ := row_of3 (hsz.trans Try.czseqrConf)
  obtain ⟨fuel, hf⟩ := h
  obtain ⟨z0, z1, z2, rfl, rfl, rfl, b0, b1, b2⟩ := rd_seqrConf (by simpa [Value.cells] using hf)
  exact ⟨z0, z1, z2, rfl, b0, b1, b2⟩
theorem open_mergeConf {r : Reach} {b0 : Nat} {v : Value} {d : DataW H} {p : List MemPlace} (hv : Value.okWide Try.prog w r b0 59 v) (h : DataW.Trod enc Try.prog w base spare held 59 v d p) :
    ∃ (z0 : Int) (z1 : Int) (z2 : Int) (z3 : Int) (z4 : Int) (z5 : Int) (z6 : Int) (z7 : Int) (z8 : Int), v = .agg #[.int .i64 z0, .int .i64 z1, .int .i64 z2, .int .i64 z3, .int .i64 z4, .int .i64 z5, .int .i64 z6, .int .i64 z7, .int .i64 z8] ∧ In64 z0 ∧ In64 z1 ∧ In64 z2 ∧ In64 z3 ∧ In64 z4 ∧ In64 z5 ∧ In64 z6 ∧ In64 z7 ∧ In64 z8 := by
  have hrow : ∃ cs, v = .agg cs ∧ cs.size = Try.prog.cellsOf 59 ∧ Row.okWide Try.prog w r b0 59 cs := by
    simp only [Value.okWide, Try.underlying59] at hv
    exact hv
  obtain ⟨⟨l⟩, rfl, hsz, _⟩ := hrow
  obtain ⟨c0, c1, c2, c3, c4, c5, c6, c7, c8, rfl⟩ := row_of9 (hsz.trans Try.czmergeConf)
  obtain ⟨fuel, hf⟩ := h
  obtain ⟨z0, z1, z2, z3, z4, z5, z6, z7, z8, rfl, rfl, rfl, rfl, rfl, rfl, rfl, rfl, rfl, b0, b1, b2, b3, b4, b5, b6, b7, b8⟩ := rd_mergeConf (by simpa [Value.cells] using hf)
  exact ⟨z0, z1, z2, z3, z4, z5, z6, z7, z8, rfl, b0, b1, b2, b3, b4, b5, b6, b7, b8⟩
end
/-- The value's elements are these: m cells each. -/
def SlArg (m : Nat) (Ok : List Value → Prop) (w : World) (v : Value) (n : Nat) : Prop :=
  (n = 0 ∧ ∃ a c, v = .slice a 0 c) ∨ (0 < n ∧ ∃ b o c, ∃ F : Nat → List Value, v = .slice (some ⟨b, o, none⟩) n c ∧ b < w.heap.size ∧ ∀ k, k < n → Ok (F k) ∧ (F k).length = m ∧ ∀ j, j < m → w.cell? ⟨b, o + k * m + j, none⟩ = (F k)[j]?)
theorem SlArg.slice {m n : Nat} {Ok : List Value → Prop} {w : World} {v : Value} (h : SlArg m Ok w v n) : ∃ p c, v = .slice p n c := by
  rcases h with ⟨rfl, p, c, rfl⟩ | ⟨_, b, o, c, F, rfl, _⟩
  · exact ⟨p, c, rfl⟩
  · exact ⟨_, c, rfl⟩
theorem SlArg.at {m n c : Nat} {Ok : List Value → Prop} {w : World} {p : Option Addr} (h : SlArg m Ok w (.slice p n c) n) (h0 : 0 < n) : ∃ b o, ∃ F : Nat → List Value, p = some ⟨b, o, none⟩ ∧ b < w.heap.size ∧ ∀ k, k < n → Ok (F k) ∧ (F k).length = m ∧ ∀ j, j < m → w.cell? ⟨b, o + k * m + j, none⟩ = (F k)[j]? := by
  rcases h with ⟨e, _⟩ | ⟨_, b, o, c', F, e, h1, h2⟩
  · omega
  · injection e with e1 e2 e3
    exact ⟨b, o, F, e1, h1, h2⟩
theorem slice_same {m n n' c : Nat} {Ok : List Value → Prop} {w : World} {p : Option Addr} (h : SlArg m Ok w (.slice p n c) n') : n = n' := by
  obtain ⟨p', c', e⟩ := h.slice
  injection e
def Oksandglasslaw13Step (l : List Value) : Prop := ∃ (z0 : Int) (z1 : Int), l = [.int .i64 z0, .int .i64 z1] ∧ In64 z0 ∧ In64 z1
set_option maxRecDepth 100000 in
theorem opens_sandglasslaw13Step {H : Type} {enc : TypeId × Value → H} {w : World} {base : Nat} {spare : Nat → Bool} {held : Bool} {a0 : Option Addr} {len cap : Nat} {d : DataW H} {p : List MemPlace}
    (h : DataW.Trod enc Try.prog w base spare held 24 (.slice a0 len cap) d p) : SlArg 2 Oksandglasslaw13Step w (.slice a0 len cap) len := by
  obtain ⟨fuel, hf⟩ := h
  rcases open_slice Try.underlying24 hf with ⟨hcs, _⟩ | ⟨a, len', cap', m, n, D, Pl, hcs, _, hl, _, hm, _, hi⟩
  · simp [Value.cells] at hcs
    obtain ⟨rfl, rfl, rfl⟩ := hcs
    exact .inl ⟨rfl, _, _, rfl⟩
  · simp [Value.cells] at hcs
    obtain ⟨rfl, rfl, rfl⟩ := hcs
    rcases Nat.eq_zero_or_pos len with h0 | h0
    · subst h0
      exact .inl ⟨rfl, _, _, rfl⟩
    have hlm : len ≤ m := by rw [hm]; split <;> omega
    have each : ∀ i, i < len → ∃ l : List Value, Oksandglasslaw13Step l ∧ l.length = 2 ∧ ∀ j, j < 2 → w.cell? ((a.add (i * 2)).add j) = l[j]? := by
      intro i hil
      obtain ⟨cs', hc, ht⟩ := hi i (by omega)
      rw [Try.czsandglasslaw13Step] at hc
      obtain ⟨_, hcl, hat⟩ := World.cells?_some hc
      refine ⟨cs', ?_, hcl, hat⟩
      · clear hat
        obtain ⟨c0, c1, rfl⟩ := row_of2 hcl
        obtain ⟨z0, z1, rfl, rfl, b0, b1⟩ := rd_sandglasslaw13Step ht
        exact ⟨z0, z1, rfl, b0, b1⟩
    obtain ⟨F, hF⟩ := choose_lt each
    obtain ⟨b, o, spot⟩ := a
    have hc0 := (hF 0 h0).2.2 0 (by omega)
    have hl0 := (hF 0 h0).2.1
    rw [List.getElem?_eq_getElem (by omega)] at hc0
    have hspot : spot = none := by
      have := World.cell?_spot hc0
      simpa [Addr.add] using this
    subst hspot
    refine .inr ⟨h0, b, o, cap, F, rfl, ?_, fun k hk => ⟨(hF k hk).1, (hF k hk).2.1, fun j hj => ?_⟩⟩
    · have := block_of_cell hc0
      simpa [block_add] using this
    · have h1 := (hF k hk).2.2 j hj
      rw [add_flat, add_flat] at h1
      exact h1
def Okint (l : List Value) : Prop := ∃ (z0 : Int), l = [.int .i64 z0] ∧ In64 z0
set_option maxRecDepth 100000 in
theorem opens_int {H : Type} {enc : TypeId × Value → H} {w : World} {base : Nat} {spare : Nat → Bool} {held : Bool} {a0 : Option Addr} {len cap : Nat} {d : DataW H} {p : List MemPlace}
    (h : DataW.Trod enc Try.prog w base spare held 37 (.slice a0 len cap) d p) : SlArg 1 Okint w (.slice a0 len cap) len := by
  obtain ⟨fuel, hf⟩ := h
  rcases open_slice Try.underlying37 hf with ⟨hcs, _⟩ | ⟨a, len', cap', m, n, D, Pl, hcs, _, hl, _, hm, _, hi⟩
  · simp [Value.cells] at hcs
    obtain ⟨rfl, rfl, rfl⟩ := hcs
    exact .inl ⟨rfl, _, _, rfl⟩
  · simp [Value.cells] at hcs
    obtain ⟨rfl, rfl, rfl⟩ := hcs
    rcases Nat.eq_zero_or_pos len with h0 | h0
    · subst h0
      exact .inl ⟨rfl, _, _, rfl⟩
    have hlm : len ≤ m := by rw [hm]; split <;> omega
    have each : ∀ i, i < len → ∃ l : List Value, Okint l ∧ l.length = 1 ∧ ∀ j, j < 1 → w.cell? ((a.add (i * 1)).add j) = l[j]? := by
      intro i hil
      obtain ⟨cs', hc, ht⟩ := hi i (by omega)
      rw [Try.czint] at hc
      obtain ⟨_, hcl, hat⟩ := World.cells?_some hc
      refine ⟨cs', ?_, hcl, hat⟩
      · clear hat
        obtain ⟨z0, g0, _, w0⟩ := DataW.trod_int Try.underlying3 ht
        exact ⟨z0, g0, in_of_wf w0⟩
    obtain ⟨F, hF⟩ := choose_lt each
    obtain ⟨b, o, spot⟩ := a
    have hc0 := (hF 0 h0).2.2 0 (by omega)
    have hl0 := (hF 0 h0).2.1
    rw [List.getElem?_eq_getElem (by omega)] at hc0
    have hspot : spot = none := by
      have := World.cell?_spot hc0
      simpa [Addr.add] using this
    subst hspot
    refine .inr ⟨h0, b, o, cap, F, rfl, ?_, fun k hk => ⟨(hF k hk).1, (hF k hk).2.1, fun j hj => ?_⟩⟩
    · have := block_of_cell hc0
      simpa [block_add] using this
    · have h1 := (hF k hk).2.2 j hj
      rw [add_flat, add_flat] at h1
      exact h1
def Oksandglasslaw14Step (l : List Value) : Prop := ∃ (z0 : Bool) (z1 : Int) (z2 : Int) (z3 : Int), l = [.bool z0, .int .i64 z1, .int .i64 z2, .int .i64 z3] ∧ In64 z1 ∧ In64 z2 ∧ In64 z3
set_option maxRecDepth 100000 in
theorem opens_sandglasslaw14Step {H : Type} {enc : TypeId × Value → H} {w : World} {base : Nat} {spare : Nat → Bool} {held : Bool} {a0 : Option Addr} {len cap : Nat} {d : DataW H} {p : List MemPlace}
    (h : DataW.Trod enc Try.prog w base spare held 60 (.slice a0 len cap) d p) : SlArg 4 Oksandglasslaw14Step w (.slice a0 len cap) len := by
  obtain ⟨fuel, hf⟩ := h
  rcases open_slice Try.underlying60 hf with ⟨hcs, _⟩ | ⟨a, len', cap', m, n, D, Pl, hcs, _, hl, _, hm, _, hi⟩
  · simp [Value.cells] at hcs
    obtain ⟨rfl, rfl, rfl⟩ := hcs
    exact .inl ⟨rfl, _, _, rfl⟩
  · simp [Value.cells] at hcs
    obtain ⟨rfl, rfl, rfl⟩ := hcs
    rcases Nat.eq_zero_or_pos len with h0 | h0
    · subst h0
      exact .inl ⟨rfl, _, _, rfl⟩
    have hlm : len ≤ m := by rw [hm]; split <;> omega
    have each : ∀ i, i < len → ∃ l : List Value, Oksandglasslaw14Step l ∧ l.length = 4 ∧ ∀ j, j < 4 → w.cell? ((a.add (i * 4)).add j) = l[j]? := by
      intro i hil
      obtain ⟨cs', hc, ht⟩ := hi i (by omega)
      rw [Try.czsandglasslaw14Step] at hc
      obtain ⟨_, hcl, hat⟩ := World.cells?_some hc
      refine ⟨cs', ?_, hcl, hat⟩
      · clear hat
        obtain ⟨c0, c1, c2, c3, rfl⟩ := row_of4 hcl
        obtain ⟨z0, z1, z2, z3, rfl, rfl, rfl, rfl, b1, b2, b3⟩ := rd_sandglasslaw14Step ht
        exact ⟨z0, z1, z2, z3, rfl, b1, b2, b3⟩
    obtain ⟨F, hF⟩ := choose_lt each
    obtain ⟨b, o, spot⟩ := a
    have hc0 := (hF 0 h0).2.2 0 (by omega)
    have hl0 := (hF 0 h0).2.1
    rw [List.getElem?_eq_getElem (by omega)] at hc0
    have hspot : spot = none := by
      have := World.cell?_spot hc0
      simpa [Addr.add] using this
    subst hspot
    refine .inr ⟨h0, b, o, cap, F, rfl, ?_, fun k hk => ⟨(hF k hk).1, (hF k hk).2.1, fun j hj => ?_⟩⟩
    · have := block_of_cell hc0
      simpa [block_add] using this
    · have h1 := (hF k hk).2.2 j hj
      rw [add_flat, add_flat] at h1
      exact h1

end Go.Proofs.Ytnkblihdgfhcdaa
