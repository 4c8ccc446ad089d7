/- Arguments that are structs, or slices of them: what is read of them. -/
import Derived.Test.YtholemjbjmkpkaaBtHead
import Derived.Test.YtholemjbjmkpkaaPost
import Derived.Deep.Slices
import Derived.Deep.Fields
namespace Go.Proofs.Ytholemjbjmkpkaa
open Go.RowKit Go.WideShapes Go.ChangeShapes Go.ChangeAt Go.Joins Go.Deep

theorem Try.laidOut : laidOutB Try.prog = true := by kernel_rfl
theorem block_of_cell {w : World} {a : Addr} {v : Value} (h : w.cell? a = some v) : a.block < w.heap.size := World.block_lt_of_cell? _ _ h
theorem add_flat (b o i : Nat) : (⟨b, o, none⟩ : Addr).add i = ⟨b, o + i, none⟩ := by unfold Addr.add; split <;> simp_all
theorem nat_of_u8 {n : Int} (h : (Lit.int .u8 n).wf = true) : ∃ x : Nat, n = (x : Int) ∧ x < 256 := by
  have := bounds_u8 h
  exact ⟨n.toNat, by omega, by omega⟩
theorem in_of_wf {n : Int} (h : (Lit.int .i64 n).wf = true) : In64 n := by
  have := bounds_i64 h
  exact ⟨by omega, by omega⟩
theorem Try.czint : Try.prog.cellsOf 3 = 1 := by kernel_rfl
theorem Try.czbool : Try.prog.cellsOf 4 = 1 := by kernel_rfl
theorem Try.czptpPrior : Try.prog.cellsOf 23 = 4 := by kernel_rfl
theorem Try.czbestVec : Try.prog.cellsOf 25 = 8 := by kernel_rfl
theorem Try.czbestHeard : Try.prog.cellsOf 37 = 10 := by kernel_rfl

section
variable {H : Type} {enc : TypeId × Value → H} {w : World} {base : Nat} {spare : Nat → Bool} {held : Bool}
set_option maxHeartbeats 1000000 in
theorem rd_ptpPrior {n : Nat} {c0 c1 c2 c3 : Value} {x : DataW H × List MemPlace} (h : DataW.trod enc Try.prog w base spare held n 23 [c0, c1, c2, c3] = some x) :
    ∃ (z0 : Int) (z1 : Int) (z2 : Int) (z3 : Int), c0 = .int .i64 z0 ∧ c1 = .int .i64 z1 ∧ c2 = .int .i64 z2 ∧ c3 = .int .i64 z3 ∧ In64 z0 ∧ In64 z1 ∧ In64 z2 ∧ In64 z3 := by
  obtain ⟨xs, m, _, _, _, hl, hall⟩ := DataW.trod_struct Try.underlying23 h
  have hx : ∀ i, i < 4 → ∃ y, xs[i]? = some y := fun i hi => ⟨xs[i]'(by rw [hl]; exact hi), List.getElem?_eq_getElem _⟩
  obtain ⟨y0, hy0⟩ := hx 0 (by omega)
  have t0 := hall 0 _ rfl
  rw [hy0] at t0
  have u0 : DataW.trod enc Try.prog w base spare held m 3 [c0] = some y0 := by
    have e : DataW.trod enc Try.prog w base spare held m 3 ((List.drop 0 [c0, c1, c2, c3]).take (Try.prog.cellsOf 3)) = some y0 := t0
    rw [Try.czint] at e
    exact e
  clear t0
  obtain ⟨z0, g0, _, w0⟩ := DataW.trod_int Try.underlying3 u0
  injection g0 with g0
  obtain ⟨y1, hy1⟩ := hx 1 (by omega)
  have t1 := hall 1 _ rfl
  rw [hy1] at t1
  have u1 : DataW.trod enc Try.prog w base spare held m 3 [c1] = some y1 := by
    have e : DataW.trod enc Try.prog w base spare held m 3 ((List.drop 1 [c0, c1, c2, c3]).take (Try.prog.cellsOf 3)) = some y1 := t1
    rw [Try.czint] at e
    exact e
  clear t1
  obtain ⟨z1, g1, _, w1⟩ := DataW.trod_int Try.underlying3 u1
  injection g1 with g1
  obtain ⟨y2, hy2⟩ := hx 2 (by omega)
  have t2 := hall 2 _ rfl
  rw [hy2] at t2
  have u2 : DataW.trod enc Try.prog w base spare held m 3 [c2] = some y2 := by
    have e : DataW.trod enc Try.prog w base spare held m 3 ((List.drop 2 [c0, c1, c2, c3]).take (Try.prog.cellsOf 3)) = some y2 := t2
    rw [Try.czint] at e
    exact e
  clear t2
  obtain ⟨z2, g2, _, w2⟩ := DataW.trod_int Try.underlying3 u2
  injection g2 with g2
  obtain ⟨y3, hy3⟩ := hx 3 (by omega)
  have t3 := hall 3 _ rfl
  rw [hy3] at t3
  have u3 : DataW.trod enc Try.prog w base spare held m 3 [c3] = some y3 := by
    have e : DataW.trod enc Try.prog w base spare held m 3 ((List.drop 3 [c0, c1, c2, c3]).take (Try.prog.cellsOf 3)) = some y3 := t3
    rw [Try.czint] at e
    exact e
  clear t3
  obtain ⟨z3, g3, _, w3⟩ := DataW.trod_int Try.underlying3 u3
  injection g3 with g3
  exact ⟨z0, z1, z2, z3, g0, g1, g2, g3, in_of_wf w0, in_of_wf w1, in_of_wf w2, in_of_wf w3⟩
set_option maxHeartbeats 1000000 in
theorem rd_bestVec {n : Nat} {c0 c1 c2 c3 c4 c5 c6 c7 : Value} {x : DataW H × List MemPlace} (h : DataW.trod enc Try.prog w base spare held n 25 [c0, c1, c2, c3, c4, c5, c6, c7] = some x) :
    ∃ (z0 : Int) (z1 : Int) (z2 : Int) (z3 : Int) (z4 : Int) (z5 : Int) (z6 : Int) (z7 : Int), c0 = .int .i64 z0 ∧ c1 = .int .i64 z1 ∧ c2 = .int .i64 z2 ∧ c3 = .int .i64 z3 ∧ c4 = .int .i64 z4 ∧ c5 = .int .i64 z5 ∧ c6 = .int .i64 z6 ∧ c7 = .int .i64 z7 ∧ In64 z0 ∧ In64 z1 ∧ In64 z2 ∧ In64 z3 ∧ In64 z4 ∧ In64 z5 ∧ In64 z6 ∧ In64 z7 := by
  obtain ⟨xs, m, _, _, _, hl, hall⟩ := DataW.trod_struct Try.underlying25 h
  have hx : ∀ i, i < 5 → ∃ y, xs[i]? = some y := fun i hi => ⟨xs[i]'(by rw [hl]; exact hi), List.getElem?_eq_getElem _⟩
  obtain ⟨y0, hy0⟩ := hx 0 (by omega)
  have t0 := hall 0 _ rfl
  rw [hy0] at t0
  have u0 : DataW.trod enc Try.prog w base spare held m 23 [c0, c1, c2, c3] = some y0 := by
    have e : DataW.trod enc Try.prog w base spare held m 23 ((List.drop 0 [c0, c1, c2, c3, c4, c5, c6, c7]).take (Try.prog.cellsOf 23)) = some y0 := t0
    rw [Try.czptpPrior] at e
    exact e
  clear t0
  obtain ⟨z0, z1, z2, z3, g0, g1, g2, g3, b0, b1, b2, b3⟩ := rd_ptpPrior u0
  obtain ⟨y1, hy1⟩ := hx 1 (by omega)
  have t1 := hall 1 _ rfl
  rw [hy1] at t1
  have u1 : DataW.trod enc Try.prog w base spare held m 3 [c4] = some y1 := by
    have e : DataW.trod enc Try.prog w base spare held m 3 ((List.drop 4 [c0, c1, c2, c3, c4, c5, c6, c7]).take (Try.prog.cellsOf 3)) = some y1 := t1
    rw [Try.czint] at e
    exact e
  clear t1
  obtain ⟨z4, g4, _, w4⟩ := DataW.trod_int Try.underlying3 u1
  injection g4 with g4
  obtain ⟨y2, hy2⟩ := hx 2 (by omega)
  have t2 := hall 2 _ rfl
  rw [hy2] at t2
  have u2 : DataW.trod enc Try.prog w base spare held m 3 [c5] = some y2 := by
    have e : DataW.trod enc Try.prog w base spare held m 3 ((List.drop 5 [c0, c1, c2, c3, c4, c5, c6, c7]).take (Try.prog.cellsOf 3)) = some y2 := t2
    rw [Try.czint] at e
    exact e
  clear t2
  obtain ⟨z5, g5, _, w5⟩ := DataW.trod_int Try.underlying3 u2
  injection g5 with g5
  obtain ⟨y3, hy3⟩ := hx 3 (by omega)
  have t3 := hall 3 _ rfl
  rw [hy3] at t3
  have u3 : DataW.trod enc Try.prog w base spare held m 3 [c6] = some y3 := by
    have e : DataW.trod enc Try.prog w base spare held m 3 ((List.drop 6 [c0, c1, c2, c3, c4, c5, c6, c7]).take (Try.prog.cellsOf 3)) = some y3 := t3
    rw [Try.czint] at e
    exact e
  clear t3
  obtain ⟨z6, g6, _, w6⟩ := DataW.trod_int Try.underlying3 u3
  injection g6 with g6
  obtain ⟨y4, hy4⟩ := hx 4 (by omega)
  have t4 := hall 4 _ rfl
  rw [hy4] at t4
  have u4 : DataW.trod enc Try.prog w base spare held m 3 [c7] = some y4 := by
    have e : DataW.trod enc Try.prog w base spare held m 3 ((List.drop 7 [c0, c1, c2, c3, c4, c5, c6, c7]).take (Try.prog.cellsOf 3)) = some y4 := t4
    rw [Try.czint] at e
    exact e
  clear t4
  obtain ⟨z7, g7, _, w7⟩ := DataW.trod_int Try.underlying3 u4
  injection g7 with g7
  exact ⟨z0, z1, z2, z3, z4, z5, z6, z7, g0, g1, g2, g3, g4, g5, g6, g7, b0, b1, b2, b3, in_of_wf w4, in_of_wf w5, in_of_wf w6, in_of_wf w7⟩
set_option maxHeartbeats 1000000 in
theorem rd_bestHeard {n : Nat} {c0 c1 c2 c3 c4 c5 c6 c7 c8 c9 : Value} {x : DataW H × List MemPlace} (h : DataW.trod enc Try.prog w base spare held n 37 [c0, c1, c2, c3, c4, c5, c6, c7, c8, c9] = some x) :
    ∃ (z0 : Bool) (z1 : Bool) (z2 : Int) (z3 : Int) (z4 : Int) (z5 : Int) (z6 : Int) (z7 : Int) (z8 : Int) (z9 : Int), c0 = .bool z0 ∧ c1 = .bool z1 ∧ c2 = .int .i64 z2 ∧ c3 = .int .i64 z3 ∧ c4 = .int .i64 z4 ∧ c5 = .int .i64 z5 ∧ c6 = .int .i64 z6 ∧ c7 = .int .i64 z7 ∧ c8 = .int .i64 z8 ∧ c9 = .int .i64 z9 ∧ In64 z2 ∧ In64 z3 ∧ In64 z4 ∧ In64 z5 ∧ In64 z6 ∧ In64 z7 ∧ In64 z8 ∧ In64 z9 := by
  obtain ⟨xs, m, _, _, _, hl, hall⟩ := DataW.trod_struct Try.underlying37 h
  have hx : ∀ i, i < 3 → ∃ y, xs[i]? = some y := fun i hi => ⟨xs[i]'(by rw [hl]; exact hi), List.getElem?_eq_getElem _⟩
  obtain ⟨y0, hy0⟩ := hx 0 (by omega)
  have t0 := hall 0 _ rfl
  rw [hy0] at t0
  have u0 : DataW.trod enc Try.prog w base spare held m 4 [c0] = some y0 := by
    have e : DataW.trod enc Try.prog w base spare held m 4 ((List.drop 0 [c0, c1, c2, c3, c4, c5, c6, c7, c8, c9]).take (Try.prog.cellsOf 4)) = some y0 := t0
    rw [Try.czbool] at e
    exact e
  clear t0
  obtain ⟨z0, g0, _⟩ := DataW.trod_bool Try.underlying4 u0
  injection g0 with g0
  obtain ⟨y1, hy1⟩ := hx 1 (by omega)
  have t1 := hall 1 _ rfl
  rw [hy1] at t1
  have u1 : DataW.trod enc Try.prog w base spare held m 4 [c1] = some y1 := by
    have e : DataW.trod enc Try.prog w base spare held m 4 ((List.drop 1 [c0, c1, c2, c3, c4, c5, c6, c7, c8, c9]).take (Try.prog.cellsOf 4)) = some y1 := t1
    rw [Try.czbool] at e
    exact e
  clear t1
  obtain ⟨z1, g1, _⟩ := DataW.trod_bool Try.underlying4 u1
  injection g1 with g1
  obtain ⟨y2, hy2⟩ := hx 2 (by omega)
  have t2 := hall 2 _ rfl
  rw [hy2] at t2
  have u2 : DataW.trod enc Try.prog w base spare held m 25 [c2, c3, c4, c5, c6, c7, c8, c9] = some y2 := by
    have e : DataW.trod enc Try.prog w base spare held m 25 ((List.drop 2 [c0, c1, c2, c3, c4, c5, c6, c7, c8, c9]).take (Try.prog.cellsOf 25)) = some y2 := t2
    rw [Try.czbestVec] at e
    exact e
  clear t2
  obtain ⟨z2, z3, z4, z5, z6, z7, z8, z9, g2, g3, g4, g5, g6, g7, g8, g9, b2, b3, b4, b5, b6, b7, b8, b9⟩ := rd_bestVec u2
  exact ⟨z0, z1, z2, z3, z4, z5, z6, z7, z8, z9, g0, g1, g2, g3, g4, g5, g6, g7, g8, g9, b2, b3, b4, b5, b6, b7, b8, b9⟩
end
theorem row_of4 {l : List Value} (h : l.length = 4) : ∃ c0 c1 c2 c3, l = [c0, c1, c2, c3] := by
  match l, h with
  | [c0, c1, c2, c3], _ => exact ⟨c0, c1, c2, c3, rfl⟩
theorem row_of8 {l : List Value} (h : l.length = 8) : ∃ c0 c1 c2 c3 c4 c5 c6 c7, l = [c0, c1, c2, c3, c4, c5, c6, c7] := by
  match l, h with
  | [c0, c1, c2, c3, c4, c5, c6, c7], _ => exact ⟨c0, c1, c2, c3, c4, c5, c6, c7, rfl⟩
theorem row_of10 {l : List Value} (h : l.length = 10) : ∃ c0 c1 c2 c3 c4 c5 c6 c7 c8 c9, l = [c0, c1, c2, c3, c4, c5, c6, c7, c8, c9] := by
  match l, h with
  | [c0, c1, c2, c3, c4, c5, c6, c7, c8, c9], _ => exact ⟨c0, c1, c2, c3, c4, c5, c6, c7, c8, c9, rfl⟩
section
variable {H : Type} {enc : TypeId × Value → H} {w : World} {base : Nat} {spare : Nat → Bool} {held : Bool}
theorem open_bestVec {r : Reach} {b0 : Nat} {v : Value} {d : DataW H} {p : List MemPlace} (hv : Value.okWide Try.prog w r b0 25 v) (h : DataW.Trod enc Try.prog w base spare held 25 v d p) :
    ∃ (z0 : Int) (z1 : Int) (z2 : Int) (z3 : Int) (z4 : Int) (z5 : Int) (z6 : Int) (z7 : Int), v = .agg #[.int .i64 z0, .int .i64 z1, .int .i64 z2, .int .i64 z3, .int .i64 z4, .int .i64 z5, .int .i64 z6, .int .i64 z7] ∧ In64 z0 ∧ In64 z1 ∧ In64 z2 ∧ In64 z3 ∧ In64 z4 ∧ In64 z5 ∧ In64 z6 ∧ In64 z7 := by
  have hrow : ∃ cs, v = .agg cs ∧ cs.size = Try.prog.cellsOf 25 ∧ Row.okWide Try.prog w r b0 25 cs := by
    simp only [Value.okWide, Try.underlying25] at hv
    exact hv
  obtain ⟨⟨l⟩, rfl, hsz, _⟩ := hrow
  obtain ⟨c0, c1, c2, c3, c4, c5, c6, c7, rfl⟩ := row_of8 (hsz.trans Try.czbestVec)
  obtain ⟨fuel, hf⟩ := h
  obtain ⟨z0, z1, z2, z3, z4, z5, z6, z7, rfl, rfl, rfl, rfl, rfl, rfl, rfl, rfl, b0, b1, b2, b3, b4, b5, b6, b7⟩ := rd_bestVec (by simpa [Value.cells] using hf)
  exact ⟨z0, z1, z2, z3, z4, z5, z6, z7, rfl, b0, b1, b2, b3, b4, b5, b6, b7⟩
theorem open_ptpPrior {r : Reach} {b0 : Nat} {v : Value} {d : DataW H} {p : List MemPlace} (hv : Value.okWide Try.prog w r b0 23 v) (h : DataW.Trod enc Try.prog w base spare held 23 v d p) :
    ∃ (z0 : Int) (z1 : Int) (z2 : Int) (z3 : Int), v = .agg #[.int .i64 z0, .int .i64 z1, .int .i64 z2, .int .i64 z3] ∧ In64 z0 ∧ In64 z1 ∧ In64 z2 ∧ In64 z3 := by
  have hrow : ∃ cs, v = .agg cs ∧ cs.size = Try.prog.cellsOf 23 ∧ Row.okWide Try.prog w r b0 23 cs := by
    simp only [Value.okWide, Try.underlying23] at hv
    exact hv
  obtain ⟨⟨l⟩, rfl, hsz, _⟩ := hrow
  obtain ⟨c0, c1, c2, c3, rfl⟩ := row_of4 (hsz.trans Try.czptpPrior)
  obtain ⟨fuel, hf⟩ := h
  obtain ⟨z0, z1, z2, z3, rfl, rfl, rfl, rfl, b0, b1, b2, b3⟩ := rd_ptpPrior (by simpa [Value.cells] using hf)
  exact ⟨z0, z1, z2, z3, rfl, b0, b1, b2, b3⟩
end
/-- The value's elements are these: m cells each. -/
def SlArg (m : Nat) (Ok : List Value → Prop) (w : World) (v : Value) (n : Nat) : Prop :=
  (n = 0 ∧ ∃ a c, v = .slice a 0 c) ∨ (0 < n ∧ ∃ b o c, ∃ F : Nat → List Value, v = .slice (some ⟨b, o, none⟩) n c ∧ b < w.heap.size ∧ ∀ k, k < n → Ok (F k) ∧ (F k).length = m ∧ ∀ j, j < m → w.cell? ⟨b, o + k * m + j, none⟩ = (F k)[j]?)
theorem SlArg.slice {m n : Nat} {Ok : List Value → Prop} {w : World} {v : Value} (h : SlArg m Ok w v n) : ∃ p c, v = .slice p n c := by
  rcases h with ⟨rfl, p, c, rfl⟩ | ⟨_, b, o, c, F, rfl, _⟩
  · exact ⟨p, c, rfl⟩
  · exact ⟨_, c, rfl⟩
theorem SlArg.at {m n c : Nat} {Ok : List Value → Prop} {w : World} {p : Option Addr} (h : SlArg m Ok w (.slice p n c) n) (h0 : 0 < n) : ∃ b o, ∃ F : Nat → List Value, p = some ⟨b, o, none⟩ ∧ b < w.heap.size ∧ ∀ k, k < n → Ok (F k) ∧ (F k).length = m ∧ ∀ j, j < m → w.cell? ⟨b, o + k * m + j, none⟩ = (F k)[j]? := by
  rcases h with ⟨e, _⟩ | ⟨_, b, o, c', F, e, h1, h2⟩
  · omega
  · injection e with e1 e2 e3
    exact ⟨b, o, F, e1, h1, h2⟩
theorem slice_same {m n n' c : Nat} {Ok : List Value → Prop} {w : World} {p : Option Addr} (h : SlArg m Ok w (.slice p n c) n') : n = n' := by
  obtain ⟨p', c', e⟩ := h.slice
  injection e
def OkbestHeard (l : List Value) : Prop := ∃ (z0 : Bool) (z1 : Bool) (z2 : Int) (z3 : Int) (z4 : Int) (z5 : Int) (z6 : Int) (z7 : Int) (z8 : Int) (z9 : Int), l = [.bool z0, .bool z1, .int .i64 z2, .int .i64 z3, .int .i64 z4, .int .i64 z5, .int .i64 z6, .int .i64 z7, .int .i64 z8, .int .i64 z9] ∧ In64 z2 ∧ In64 z3 ∧ In64 z4 ∧ In64 z5 ∧ In64 z6 ∧ In64 z7 ∧ In64 z8 ∧ In64 z9
set_option maxRecDepth 100000 in
theorem opens_bestHeard {H : Type} {enc : TypeId × Value → H} {w : World} {base : Nat} {spare : Nat → Bool} {held : Bool} {a0 : Option Addr} {len cap : Nat} {d : DataW H} {p : List MemPlace}
    (h : DataW.Trod enc Try.prog w base spare held 33 (.slice a0 len cap) d p) : SlArg 10 OkbestHeard w (.slice a0 len cap) len := by
  obtain ⟨fuel, hf⟩ := h
  rcases open_slice Try.underlying33 hf with ⟨hcs, _⟩ | ⟨a, len', cap', m, n, D, Pl, hcs, _, hl, _, hm, _, hi⟩
  · simp [Value.cells] at hcs
    obtain ⟨rfl, rfl, rfl⟩ := hcs
    exact .inl ⟨rfl, _, _, rfl⟩
  · simp [Value.cells] at hcs
    obtain ⟨rfl, rfl, rfl⟩ := hcs
    rcases Nat.eq_zero_or_pos len with h0 | h0
    · subst h0
      exact .inl ⟨rfl, _, _, rfl⟩
    have hlm : len ≤ m := by rw [hm]; split <;> omega
    have each : ∀ i, i < len → ∃ l : List Value, OkbestHeard l ∧ l.length = 10 ∧ ∀ j, j < 10 → w.cell? ((a.add (i * 10)).add j) = l[j]? := by
      intro i hil
      obtain ⟨cs', hc, ht⟩ := hi i (by omega)
      rw [Try.czbestHeard] at hc
      obtain ⟨_, hcl, hat⟩ := World.cells?_some hc
      refine ⟨cs', ?_, hcl, hat⟩
      · clear hat
        obtain ⟨c0, c1, c2, c3, c4, c5, c6, c7, c8, c9, rfl⟩ := row_of10 hcl
        obtain ⟨z0, z1, z2, z3, z4, z5, z6, z7, z8, z9, rfl, rfl, rfl, rfl, rfl, rfl, rfl, rfl, rfl, rfl, b2, b3, b4, b5, b6, b7, b8, b9⟩ := rd_bestHeard ht
        exact ⟨z0, z1, z2, z3, z4, z5, z6, z7, z8, z9, rfl, b2, b3, b4, b5, b6, b7, b8, b9⟩
    obtain ⟨F, hF⟩ := choose_lt each
    obtain ⟨b, o, spot⟩ := a
    have hc0 := (hF 0 h0).2.2 0 (by omega)
    have hl0 := (hF 0 h0).2.1
    rw [List.getElem?_eq_getElem (by omega)] at hc0
    have hspot : spot = none := by
      have := World.cell?_spot hc0
      simpa [Addr.add] using this
    subst hspot
    refine .inr ⟨h0, b, o, cap, F, rfl, ?_, fun k hk => ⟨(hF k hk).1, (hF k hk).2.1, fun j hj => ?_⟩⟩
    · have := block_of_cell hc0
      simpa [block_add] using this
    · have h1 := (hF k hk).2.2 j hj
      rw [add_flat, add_flat] at h1
      exact h1
def OkptpPrior (l : List Value) : Prop := ∃ (z0 : Int) (z1 : Int) (z2 : Int) (z3 : Int), l = [.int .i64 z0, .int .i64 z1, .int .i64 z2, .int .i64 z3] ∧ In64 z0 ∧ In64 z1 ∧ In64 z2 ∧ In64 z3
set_option maxRecDepth 100000 in
theorem opens_ptpPrior {H : Type} {enc : TypeId × Value → H} {w : World} {base : Nat} {spare : Nat → Bool} {held : Bool} {a0 : Option Addr} {len cap : Nat} {d : DataW H} {p : List MemPlace}
    (h : DataW.Trod enc Try.prog w base spare held 46 (.slice a0 len cap) d p) : SlArg 4 OkptpPrior w (.slice a0 len cap) len := by
  obtain ⟨fuel, hf⟩ := h
  rcases open_slice Try.underlying46 hf with ⟨hcs, _⟩ | ⟨a, len', cap', m, n, D, Pl, hcs, _, hl, _, hm, _, hi⟩
  · simp [Value.cells] at hcs
    obtain ⟨rfl, rfl, rfl⟩ := hcs
    exact .inl ⟨rfl, _, _, rfl⟩
  · simp [Value.cells] at hcs
    obtain ⟨rfl, rfl, rfl⟩ := hcs
    rcases Nat.eq_zero_or_pos len with h0 | h0
    · subst h0
      exact .inl ⟨rfl, _, _, rfl⟩
    have hlm : len ≤ m := by rw [hm]; split <;> omega
    have each : ∀ i, i < len → ∃ l : List Value, OkptpPrior l ∧ l.length = 4 ∧ ∀ j, j < 4 → w.cell? ((a.add (i * 4)).add j) = l[j]? := by
      intro i hil
      obtain ⟨cs', hc, ht⟩ := hi i (by omega)
      rw [Try.czptpPrior] at hc
      obtain ⟨_, hcl, hat⟩ := World.cells?_some hc
      refine ⟨cs', ?_, hcl, hat⟩
      · clear hat
        obtain ⟨c0, c1, c2, c3, rfl⟩ := row_of4 hcl
        obtain ⟨z0, z1, z2, z3, rfl, rfl, rfl, rfl, b0, b1, b2, b3⟩ := rd_ptpPrior ht
        exact ⟨z0, z1, z2, z3, rfl, b0, b1, b2, b3⟩
    obtain ⟨F, hF⟩ := choose_lt each
    obtain ⟨b, o, spot⟩ := a
    have hc0 := (hF 0 h0).2.2 0 (by omega)
    have hl0 := (hF 0 h0).2.1
    rw [List.getElem?_eq_getElem (by omega)] at hc0
    have hspot : spot = none := by
      have := World.cell?_spot hc0
      simpa [Addr.add] using this
    subst hspot
    refine .inr ⟨h0, b, o, cap, F, rfl, ?_, fun k hk => ⟨(hF k hk).1, (hF k hk).2.1, fun j hj => ?_⟩⟩
    · have := block_of_cell hc0
      simpa [block_add] using this
    · have h1 := (hF k hk).2.2 j hj
      rw [add_flat, add_flat] at h1
      exact h1

end Go.Proofs.Ytholemjbjmkpkaa
