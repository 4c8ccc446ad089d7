/- Arguments that are structs, or slices of them: what is read of them. -/
import Derived.Test.YtkbodcgamfkegaaFdHead
import Derived.Test.YtkbodcgamfkegaaPost
import Derived.Deep.Slices
import Derived.Deep.Fields
namespace Go.Proofs.Ytkbodcgamfkegaa
open Go.RowKit Go.WideShapes Go.ChangeShapes Go.ChangeAt Go.Joins Go.Deep

theorem block_of_cell {w : World} {a : Addr} {v : Value} (h : w.cell? a = some v) : a.block < w.heap.size := World.block_lt_of_cell? _ _ h
theorem add_flat (b o i : Nat) : (⟨b, o, none⟩ : Addr).add i = ⟨b, o + i, none⟩ := by unfold Addr.add; split <;> simp_all
theorem nat_of_u8 {n : Int} (h : (Lit.int .u8 n).wf = true) : ∃ x : Nat, n = (x : Int) ∧ x < 256 := by
  have := bounds_u8 h
  exact ⟨n.toNat, by omega, by omega⟩
theorem in_of_wf {n : Int} (h : (Lit.int .i64 n).wf = true) : In64 n := by
  have := bounds_i64 h
  exact ⟨by omega, by omega⟩
theorem Try.czint : Try.prog.cellsOf 3 = 1 := by kernel_rfl
theorem Try.czbool : Try.prog.cellsOf 4 = 1 := by kernel_rfl
theorem Try.czuint8 : Try.prog.cellsOf 5 = 1 := by kernel_rfl
theorem Try.czapiMac : Try.prog.cellsOf 40 = 6 := by kernel_rfl
theorem Try.cz8int : Try.prog.cellsOf 52 = 8 := by kernel_rfl
theorem Try.czfdbPlace : Try.prog.cellsOf 42 = 7 := by kernel_rfl
theorem Try.czfdbVlan : Try.prog.cellsOf 50 = 2 := by kernel_rfl
theorem Try.czfdbPort : Try.prog.cellsOf 54 = 9 := by kernel_rfl
theorem Try.czsandglasslaw09Op : Try.prog.cellsOf 56 = 21 := by kernel_rfl

section
variable {H : Type} {enc : TypeId × Value → H} {w : World} {base : Nat} {spare : Nat → Bool} {held : Bool}
set_option maxHeartbeats 1000000 in
theorem rd_apiMac {n : Nat} {c0 c1 c2 c3 c4 c5 : Value} {x : DataW H × List MemPlace} (h : DataW.trod enc Try.prog w base spare held n 40 [c0, c1, c2, c3, c4, c5] = some x) :
    ∃ (z0 : Nat) (z1 : Nat) (z2 : Nat) (z3 : Nat) (z4 : Nat) (z5 : Nat), c0 = .int .u8 (z0 : Int) ∧ c1 = .int .u8 (z1 : Int) ∧ c2 = .int .u8 (z2 : Int) ∧ c3 = .int .u8 (z3 : Int) ∧ c4 = .int .u8 (z4 : Int) ∧ c5 = .int .u8 (z5 : Int) ∧ z0 < 256 ∧ z1 < 256 ∧ z2 < 256 ∧ z3 < 256 ∧ z4 < 256 ∧ z5 < 256 := by
  obtain ⟨xs, m, _, _, _, hl, hall⟩ := DataW.trod_array Try.underlying40 h
  have one : ∀ i, i < 6 → ∃ y : Nat, ([c0, c1, c2, c3, c4, c5].drop i).take 1 = [.int .u8 (y : Int)] ∧ y < 256 := by
    intro i hi
    have h1 := hall i hi
    rw [Try.czuint8, Nat.mul_one, List.getElem?_eq_getElem (by omega)] at h1
    obtain ⟨z, hz, _, hw⟩ := DataW.trod_int Try.underlying5 h1
    obtain ⟨y, rfl, hy⟩ := nat_of_u8 hw
    exact ⟨y, hz, hy⟩
  obtain ⟨z0, g0, b0⟩ := one 0 (by omega)
  injection g0 with g0
  obtain ⟨z1, g1, b1⟩ := one 1 (by omega)
  injection g1 with g1
  obtain ⟨z2, g2, b2⟩ := one 2 (by omega)
  injection g2 with g2
  obtain ⟨z3, g3, b3⟩ := one 3 (by omega)
  injection g3 with g3
  obtain ⟨z4, g4, b4⟩ := one 4 (by omega)
  injection g4 with g4
  obtain ⟨z5, g5, b5⟩ := one 5 (by omega)
  injection g5 with g5
  exact ⟨z0, z1, z2, z3, z4, z5, g0, g1, g2, g3, g4, g5, b0, b1, b2, b3, b4, b5⟩
set_option maxHeartbeats 1000000 in
theorem rd_8int {n : Nat} {c0 c1 c2 c3 c4 c5 c6 c7 : Value} {x : DataW H × List MemPlace} (h : DataW.trod enc Try.prog w base spare held n 52 [c0, c1, c2, c3, c4, c5, c6, c7] = some x) :
    ∃ (z0 : Int) (z1 : Int) (z2 : Int) (z3 : Int) (z4 : Int) (z5 : Int) (z6 : Int) (z7 : Int), c0 = .int .i64 z0 ∧ c1 = .int .i64 z1 ∧ c2 = .int .i64 z2 ∧ c3 = .int .i64 z3 ∧ c4 = .int .i64 z4 ∧ c5 = .int .i64 z5 ∧ c6 = .int .i64 z6 ∧ c7 = .int .i64 z7 ∧ In64 z0 ∧ In64 z1 ∧ In64 z2 ∧ In64 z3 ∧ In64 z4 ∧ In64 z5 ∧ In64 z6 ∧ In64 z7 := by
  obtain ⟨xs, m, _, _, _, hl, hall⟩ := DataW.trod_array Try.underlying52 h
  have one : ∀ i, i < 8 → ∃ y : Int, ([c0, c1, c2, c3, c4, c5, c6, c7].drop i).take 1 = [.int .i64 y] ∧ In64 y := by
    intro i hi
    have h1 := hall i hi
    rw [Try.czint, Nat.mul_one, List.getElem?_eq_getElem (by omega)] at h1
    obtain ⟨z, hz, _, hw⟩ := DataW.trod_int Try.underlying3 h1
    exact ⟨z, hz, in_of_wf hw⟩
  obtain ⟨z0, g0, b0⟩ := one 0 (by omega)
  injection g0 with g0
  obtain ⟨z1, g1, b1⟩ := one 1 (by omega)
  injection g1 with g1
  obtain ⟨z2, g2, b2⟩ := one 2 (by omega)
  injection g2 with g2
  obtain ⟨z3, g3, b3⟩ := one 3 (by omega)
  injection g3 with g3
  obtain ⟨z4, g4, b4⟩ := one 4 (by omega)
  injection g4 with g4
  obtain ⟨z5, g5, b5⟩ := one 5 (by omega)
  injection g5 with g5
  obtain ⟨z6, g6, b6⟩ := one 6 (by omega)
  injection g6 with g6
  obtain ⟨z7, g7, b7⟩ := one 7 (by omega)
  injection g7 with g7
  exact ⟨z0, z1, z2, z3, z4, z5, z6, z7, g0, g1, g2, g3, g4, g5, g6, g7, b0, b1, b2, b3, b4, b5, b6, b7⟩
set_option maxHeartbeats 1000000 in
theorem rd_fdbPlace {n : Nat} {c0 c1 c2 c3 c4 c5 c6 : Value} {x : DataW H × List MemPlace} (h : DataW.trod enc Try.prog w base spare held n 42 [c0, c1, c2, c3, c4, c5, c6] = some x) :
    ∃ (z0 : Int) (z1 : Nat) (z2 : Nat) (z3 : Nat) (z4 : Nat) (z5 : Nat) (z6 : Nat), c0 = .int .i64 z0 ∧ c1 = .int .u8 (z1 : Int) ∧ c2 = .int .u8 (z2 : Int) ∧ c3 = .int .u8 (z3 : Int) ∧ c4 = .int .u8 (z4 : Int) ∧ c5 = .int .u8 (z5 : Int) ∧ c6 = .int .u8 (z6 : Int) ∧ In64 z0 ∧ z1 < 256 ∧ z2 < 256 ∧ z3 < 256 ∧ z4 < 256 ∧ z5 < 256 ∧ z6 < 256 := by
  obtain ⟨xs, m, _, _, _, hl, hall⟩ := DataW.trod_struct Try.underlying42 h
  have hx : ∀ i, i < 2 → ∃ y, xs[i]? = some y := fun i hi => ⟨xs[i]'(by rw [hl]; exact hi), List.getElem?_eq_getElem _⟩
  obtain ⟨y0, hy0⟩ := hx 0 (by omega)
  have t0 := hall 0 _ rfl
  rw [hy0] at t0
  have u0 : DataW.trod enc Try.prog w base spare held m 3 [c0] = some y0 := by
    have e : DataW.trod enc Try.prog w base spare held m 3 ((List.drop 0 [c0, c1, c2, c3, c4, c5, c6]).take (Try.prog.cellsOf 3)) = some y0 := t0
    rw [Try.czint] at e
    exact e
  clear t0
  obtain ⟨z0, g0, _, w0⟩ := DataW.trod_int Try.underlying3 u0
  injection g0 with g0
  obtain ⟨y1, hy1⟩ := hx 1 (by omega)
  have t1 := hall 1 _ rfl
  rw [hy1] at t1
  have u1 : DataW.trod enc Try.prog w base spare held m 40 [c1, c2, c3, c4, c5, c6] = some y1 := by
    have e : DataW.trod enc Try.prog w base spare held m 40 ((List.drop 1 [c0, c1, c2, c3, c4, c5, c6]).take (Try.prog.cellsOf 40)) = some y1 := t1
    rw [Try.czapiMac] at e
    exact e
  clear t1
  obtain ⟨z1, z2, z3, z4, z5, z6, g1, g2, g3, g4, g5, g6, b1, b2, b3, b4, b5, b6⟩ := rd_apiMac u1
  exact ⟨z0, z1, z2, z3, z4, z5, z6, g0, g1, g2, g3, g4, g5, g6, in_of_wf w0, b1, b2, b3, b4, b5, b6⟩
set_option maxHeartbeats 1000000 in
theorem rd_fdbVlan {n : Nat} {c0 c1 : Value} {x : DataW H × List MemPlace} (h : DataW.trod enc Try.prog w base spare held n 50 [c0, c1] = some x) :
    ∃ (z0 : Int) (z1 : Int), c0 = .int .i64 z0 ∧ c1 = .int .i64 z1 ∧ In64 z0 ∧ In64 z1 := by
  obtain ⟨xs, m, _, _, _, hl, hall⟩ := DataW.trod_struct Try.underlying50 h
  have hx : ∀ i, i < 2 → ∃ y, xs[i]? = some y := fun i hi => ⟨xs[i]'(by rw [hl]; exact hi), List.getElem?_eq_getElem _⟩
  obtain ⟨y0, hy0⟩ := hx 0 (by omega)
  have t0 := hall 0 _ rfl
  rw [hy0] at t0
  have u0 : DataW.trod enc Try.prog w base spare held m 3 [c0] = some y0 := by
    have e : DataW.trod enc Try.prog w base spare held m 3 ((List.drop 0 [c0, c1]).take (Try.prog.cellsOf 3)) = some y0 := t0
    rw [Try.czint] at e
    exact e
  clear t0
  obtain ⟨z0, g0, _, w0⟩ := DataW.trod_int Try.underlying3 u0
  injection g0 with g0
  obtain ⟨y1, hy1⟩ := hx 1 (by omega)
  have t1 := hall 1 _ rfl
  rw [hy1] at t1
  have u1 : DataW.trod enc Try.prog w base spare held m 3 [c1] = some y1 := by
    have e : DataW.trod enc Try.prog w base spare held m 3 ((List.drop 1 [c0, c1]).take (Try.prog.cellsOf 3)) = some y1 := t1
    rw [Try.czint] at e
    exact e
  clear t1
  obtain ⟨z1, g1, _, w1⟩ := DataW.trod_int Try.underlying3 u1
  injection g1 with g1
  exact ⟨z0, z1, g0, g1, in_of_wf w0, in_of_wf w1⟩
set_option maxHeartbeats 1000000 in
theorem rd_fdbPort {n : Nat} {c0 c1 c2 c3 c4 c5 c6 c7 c8 : Value} {x : DataW H × List MemPlace} (h : DataW.trod enc Try.prog w base spare held n 54 [c0, c1, c2, c3, c4, c5, c6, c7, c8] = some x) :
    ∃ (z0 : Int) (z1 : Int) (z2 : Int) (z3 : Int) (z4 : Int) (z5 : Int) (z6 : Int) (z7 : Int) (z8 : Int), c0 = .int .i64 z0 ∧ c1 = .int .i64 z1 ∧ c2 = .int .i64 z2 ∧ c3 = .int .i64 z3 ∧ c4 = .int .i64 z4 ∧ c5 = .int .i64 z5 ∧ c6 = .int .i64 z6 ∧ c7 = .int .i64 z7 ∧ c8 = .int .i64 z8 ∧ In64 z0 ∧ In64 z1 ∧ In64 z2 ∧ In64 z3 ∧ In64 z4 ∧ In64 z5 ∧ In64 z6 ∧ In64 z7 ∧ In64 z8 := by
  obtain ⟨xs, m, _, _, _, hl, hall⟩ := DataW.trod_struct Try.underlying54 h
  have hx : ∀ i, i < 2 → ∃ y, xs[i]? = some y := fun i hi => ⟨xs[i]'(by rw [hl]; exact hi), List.getElem?_eq_getElem _⟩
  obtain ⟨y0, hy0⟩ := hx 0 (by omega)
  have t0 := hall 0 _ rfl
  rw [hy0] at t0
  have u0 : DataW.trod enc Try.prog w base spare held m 3 [c0] = some y0 := by
    have e : DataW.trod enc Try.prog w base spare held m 3 ((List.drop 0 [c0, c1, c2, c3, c4, c5, c6, c7, c8]).take (Try.prog.cellsOf 3)) = some y0 := t0
    rw [Try.czint] at e
    exact e
  clear t0
  obtain ⟨z0, g0, _, w0⟩ := DataW.trod_int Try.underlying3 u0
  injection g0 with g0
  obtain ⟨y1, hy1⟩ := hx 1 (by omega)
  have t1 := hall 1 _ rfl
  rw [hy1] at t1
  have u1 : DataW.trod enc Try.prog w base spare held m 52 [c1, c2, c3, c4, c5, c6, c7, c8] = some y1 := by
    have e : DataW.trod enc Try.prog w base spare held m 52 ((List.drop 1 [c0, c1, c2, c3, c4, c5, c6, c7, c8]).take (Try.prog.cellsOf 52)) = some y1 := t1
    rw [Try.cz8int] at e
    exact e
  clear t1
  obtain ⟨z1, z2, z3, z4, z5, z6, z7, z8, g1, g2, g3, g4, g5, g6, g7, g8, b1, b2, b3, b4, b5, b6, b7, b8⟩ := rd_8int u1
  exact ⟨z0, z1, z2, z3, z4, z5, z6, z7, z8, g0, g1, g2, g3, g4, g5, g6, g7, g8, in_of_wf w0, b1, b2, b3, b4, b5, b6, b7, b8⟩
set_option maxHeartbeats 1000000 in
theorem rd_sandglasslaw09Op {n : Nat} {c0 c1 c2 c3 c4 c5 c6 c7 c8 c9 c10 c11 c12 c13 c14 c15 c16 c17 c18 c19 c20 : Value} {x : DataW H × List MemPlace} (h : DataW.trod enc Try.prog w base spare held n 56 [c0, c1, c2, c3, c4, c5, c6, c7, c8, c9, c10, c11, c12, c13, c14, c15, c16, c17, c18, c19, c20] = some x) :
    ∃ (z0 : Int) (z1 : Int) (z2 : Int) (z3 : Int) (z4 : Bool) (z5 : Int) (z6 : Nat) (z7 : Nat) (z8 : Nat) (z9 : Nat) (z10 : Nat) (z11 : Nat) (z12 : Int) (z13 : Int) (z14 : Int) (z15 : Int) (z16 : Int) (z17 : Int) (z18 : Int) (z19 : Int) (z20 : Int), c0 = .int .i64 z0 ∧ c1 = .int .i64 z1 ∧ c2 = .int .i64 z2 ∧ c3 = .int .i64 z3 ∧ c4 = .bool z4 ∧ c5 = .int .i64 z5 ∧ c6 = .int .u8 (z6 : Int) ∧ c7 = .int .u8 (z7 : Int) ∧ c8 = .int .u8 (z8 : Int) ∧ c9 = .int .u8 (z9 : Int) ∧ c10 = .int .u8 (z10 : Int) ∧ c11 = .int .u8 (z11 : Int) ∧ c12 = .int .i64 z12 ∧ c13 = .int .i64 z13 ∧ c14 = .int .i64 z14 ∧ c15 = .int .i64 z15 ∧ c16 = .int .i64 z16 ∧ c17 = .int .i64 z17 ∧ c18 = .int .i64 z18 ∧ c19 = .int .i64 z19 ∧ c20 = .int .i64 z20 ∧ In64 z0 ∧ In64 z1 ∧ In64 z2 ∧ In64 z3 ∧ In64 z5 ∧ z6 < 256 ∧ z7 < 256 ∧ z8 < 256 ∧ z9 < 256 ∧ z10 < 256 ∧ z11 < 256 ∧ In64 z12 ∧ In64 z13 ∧ In64 z14 ∧ In64 z15 ∧ In64 z16 ∧ In64 z17 ∧ In64 z18 ∧ In64 z19 ∧ In64 z20 := by
  obtain ⟨xs, m, _, _, _, hl, hall⟩ := DataW.trod_struct Try.underlying56 h
  have hx : ∀ i, i < 7 → ∃ y, xs[i]? = some y := fun i hi => ⟨xs[i]'(by rw [hl]; exact hi), List.getElem?_eq_getElem _⟩
  obtain ⟨y0, hy0⟩ := hx 0 (by omega)
  have t0 := hall 0 _ rfl
  rw [hy0] at t0
  have u0 : DataW.trod enc Try.prog w base spare held m 3 [c0] = some y0 := by
    have e : DataW.trod enc Try.prog w base spare held m 3 ((List.drop 0 [c0, c1, c2, c3, c4, c5, c6, c7, c8, c9, c10, c11, c12, c13, c14, c15, c16, c17, c18, c19, c20]).take (Try.prog.cellsOf 3)) = some y0 := t0
    rw [Try.czint] at e
    exact e
  clear t0
  obtain ⟨z0, g0, _, w0⟩ := DataW.trod_int Try.underlying3 u0
  injection g0 with g0
  obtain ⟨y1, hy1⟩ := hx 1 (by omega)
  have t1 := hall 1 _ rfl
  rw [hy1] at t1
  have u1 : DataW.trod enc Try.prog w base spare held m 3 [c1] = some y1 := by
    have e : DataW.trod enc Try.prog w base spare held m 3 ((List.drop 1 [c0, c1, c2, c3, c4, c5, c6, c7, c8, c9, c10, c11, c12, c13, c14, c15, c16, c17, c18, c19, c20]).take (Try.prog.cellsOf 3)) = some y1 := t1
    rw [Try.czint] at e
    exact e
  clear t1
  obtain ⟨z1, g1, _, w1⟩ := DataW.trod_int Try.underlying3 u1
  injection g1 with g1
  obtain ⟨y2, hy2⟩ := hx 2 (by omega)
  have t2 := hall 2 _ rfl
  rw [hy2] at t2
  have u2 : DataW.trod enc Try.prog w base spare held m 3 [c2] = some y2 := by
    have e : DataW.trod enc Try.prog w base spare held m 3 ((List.drop 2 [c0, c1, c2, c3, c4, c5, c6, c7, c8, c9, c10, c11, c12, c13, c14, c15, c16, c17, c18, c19, c20]).take (Try.prog.cellsOf 3)) = some y2 := t2
    rw [Try.czint] at e
    exact e
  clear t2
  obtain ⟨z2, g2, _, w2⟩ := DataW.trod_int Try.underlying3 u2
  injection g2 with g2
  obtain ⟨y3, hy3⟩ := hx 3 (by omega)
  have t3 := hall 3 _ rfl
  rw [hy3] at t3
  have u3 : DataW.trod enc Try.prog w base spare held m 3 [c3] = some y3 := by
    have e : DataW.trod enc Try.prog w base spare held m 3 ((List.drop 3 [c0, c1, c2, c3, c4, c5, c6, c7, c8, c9, c10, c11, c12, c13, c14, c15, c16, c17, c18, c19, c20]).take (Try.prog.cellsOf 3)) = some y3 := t3
    rw [Try.czint] at e
    exact e
  clear t3
  obtain ⟨z3, g3, _, w3⟩ := DataW.trod_int Try.underlying3 u3
  injection g3 with g3
  obtain ⟨y4, hy4⟩ := hx 4 (by omega)
  have t4 := hall 4 _ rfl
  rw [hy4] at t4
  have u4 : DataW.trod enc Try.prog w base spare held m 4 [c4] = some y4 := by
    have e : DataW.trod enc Try.prog w base spare held m 4 ((List.drop 4 [c0, c1, c2, c3, c4, c5, c6, c7, c8, c9, c10, c11, c12, c13, c14, c15, c16, c17, c18, c19, c20]).take (Try.prog.cellsOf 4)) = some y4 := t4
    rw [Try.czbool] at e
    exact e
  clear t4
  obtain ⟨z4, g4, _⟩ := DataW.trod_bool Try.underlying4 u4
  injection g4 with g4
  obtain ⟨y5, hy5⟩ := hx 5 (by omega)
  have t5 := hall 5 _ rfl
  rw [hy5] at t5
  have u5 : DataW.trod enc Try.prog w base spare held m 42 [c5, c6, c7, c8, c9, c10, c11] = some y5 := by
    have e : DataW.trod enc Try.prog w base spare held m 42 ((List.drop 5 [c0, c1, c2, c3, c4, c5, c6, c7, c8, c9, c10, c11, c12, c13, c14, c15, c16, c17, c18, c19, c20]).take (Try.prog.cellsOf 42)) = some y5 := t5
    rw [Try.czfdbPlace] at e
    exact e
  clear t5
  obtain ⟨z5, z6, z7, z8, z9, z10, z11, g5, g6, g7, g8, g9, g10, g11, b5, b6, b7, b8, b9, b10, b11⟩ := rd_fdbPlace u5
  obtain ⟨y6, hy6⟩ := hx 6 (by omega)
  have t6 := hall 6 _ rfl
  rw [hy6] at t6
  have u6 : DataW.trod enc Try.prog w base spare held m 54 [c12, c13, c14, c15, c16, c17, c18, c19, c20] = some y6 := by
    have e : DataW.trod enc Try.prog w base spare held m 54 ((List.drop 12 [c0, c1, c2, c3, c4, c5, c6, c7, c8, c9, c10, c11, c12, c13, c14, c15, c16, c17, c18, c19, c20]).take (Try.prog.cellsOf 54)) = some y6 := t6
    rw [Try.czfdbPort] at e
    exact e
  clear t6
  obtain ⟨z12, z13, z14, z15, z16, z17, z18, z19, z20, g12, g13, g14, g15, g16, g17, g18, g19, g20, b12, b13, b14, b15, b16, b17, b18, b19, b20⟩ := rd_fdbPort u6
  exact ⟨z0, z1, z2, z3, z4, z5, z6, z7, z8, z9, z10, z11, z12, z13, z14, z15, z16, z17, z18, z19, z20, g0, g1, g2, g3, g4, g5, g6, g7, g8, g9, g10, g11, g12, g13, g14, g15, g16, g17, g18, g19, g20, in_of_wf w0, in_of_wf w1, in_of_wf w2, in_of_wf w3, b5, b6, b7, b8, b9, b10, b11, b12, b13, b14, b15, b16, b17, b18, b19, b20⟩
end
theorem row_of2 {l : List Value} (h : l.length = 2) : ∃ c0 c1, l = [c0, c1] := by
  match l, h with
  | [c0, c1], _ => exact ⟨c0, c1, rfl⟩
theorem row_of6 {l : List Value} (h : l.length = 6) : ∃ c0 c1 c2 c3 c4 c5, l = [c0, c1, c2, c3, c4, c5] := by
  match l, h with
  | [c0, c1, c2, c3, c4, c5], _ => exact ⟨c0, c1, c2, c3, c4, c5, rfl⟩
theorem row_of7 {l : List Value} (h : l.length = 7) : ∃ c0 c1 c2 c3 c4 c5 c6, l = [c0, c1, c2, c3, c4, c5, c6] := by
  match l, h with
  | [c0, c1, c2, c3, c4, c5, c6], _ => exact ⟨c0, c1, c2, c3, c4, c5, c6, rfl⟩
theorem row_of8 {l : List Value} (h : l.length = 8) : ∃ c0 c1 c2 c3 c4 c5 c6 c7, l = [c0, c1, c2, c3, c4, c5, c6, c7] := by
  match l, h with
  | [c0, c1, c2, c3, c4, c5, c6, c7], _ => exact ⟨c0, c1, c2, c3, c4, c5, c6, c7, rfl⟩
theorem row_of9 {l : List Value} (h : l.length = 9) : ∃ c0 c1 c2 c3 c4 c5 c6 c7 c8, l = [c0, c1, c2, c3, c4, c5, c6, c7, c8] := by
  match l, h with
  | [c0, c1, c2, c3, c4, c5, c6, c7, c8], _ => exact ⟨c0, c1, c2, c3, c4, c5, c6, c7, c8, rfl⟩
theorem row_of21 {l : List Value} (h : l.length = 21) : ∃ c0 c1 c2 c3 c4 c5 c6 c7 c8 c9 c10 c11 c12 c13 c14 c15 c16 c17 c18 c19 c20, l = [c0, c1, c2, c3, c4, c5, c6, c7, c8, c9, c10, c11, c12, c13, c14, c15, c16, c17, c18, c19, c20] := by
  match l, h with
  | [c0, c1, c2, c3, c4, c5, c6, c7, c8, c9, c10, c11, c12, c13, c14, c15, c16, c17, c18, c19, c20], _ => exact ⟨c0, c1, c2, c3, c4, c5, c6, c7, c8, c9, c10, c11, c12, c13, c14, c15, c16, c17, c18, c19, c20, rfl⟩
section
variable {H : Type} {enc : TypeId × Value → H} {w : World} {base : Nat} {spare : Nat → Bool} {held : Bool}
theorem open_fdbVlan {r : Reach} {b0 : Nat} {v : Value} {d : DataW H} {p : List MemPlace} (hv : Value.okWide Try.prog w r b0 50 v) (h : DataW.Trod enc Try.prog w base spare held 50 v d p) :
    ∃ (z0 : Int) (z1 : Int), v = .agg #[.int .i64 z0, .int .i64 z1] ∧ In64 z0 ∧ In64 z1 := by
  have hrow : ∃ cs, v = .agg cs ∧ cs.size = Try.prog.cellsOf 50 ∧ Row.okWide Try.prog w r b0 50 cs := by
    simp only [Value.okWide, Try.underlying50] at hv
    exact hv
  obtain ⟨⟨l⟩, rfl, hsz, _⟩ := hrow
  obtain ⟨c0, c1, rfl⟩ := row_of2 (hsz.trans Try.czfdbVlan)
  obtain ⟨fuel, hf⟩ := h
  obtain ⟨z0, z1, rfl, rfl, b0, b1⟩ := rd_fdbVlan (by simpa [Value.cells] using hf)
  exact ⟨z0, z1, rfl, b0, b1⟩
theorem open_fdbPlace {r : Reach} {b0 : Nat} {v : Value} {d : DataW H} {p : List MemPlace} (hv : Value.okWide Try.prog w r b0 42 v) (h : DataW.Trod enc Try.prog w base spare held 42 v d p) :
    ∃ (z0 : Int) (z1 : Nat) (z2 : Nat) (z3 : Nat) (z4 : Nat) (z5 : Nat) (z6 : Nat), v = .agg #[.int .i64 z0, .int .u8 (z1 : Int), .int .u8 (z2 : Int), .int .u8 (z3 : Int), .int .u8 (z4 : Int), .int .u8 (z5 : Int), .int .u8 (z6 : Int)] ∧ In64 z0 ∧ z1 < 256 ∧ z2 < 256 ∧ z3 < 256 ∧ z4 < 256 ∧ z5 < 256 ∧ z6 < 256 := by
  have hrow : ∃ cs, v = .agg cs ∧ cs.size = Try.prog.cellsOf 42 ∧ Row.okWide Try.prog w r b0 42 cs := by
    simp only [Value.okWide, Try.underlying42] at hv
    exact hv
  obtain ⟨⟨l⟩, rfl, hsz, _⟩ := hrow
  obtain ⟨c0, c1, c2, c3, c4, c5, c6, rfl⟩ := row_of7 (hsz.trans Try.czfdbPlace)
  obtain ⟨fuel, hf⟩ := h
  obtain ⟨z0, z1, z2, z3, z4, z5, z6, rfl, rfl, rfl, rfl, rfl, rfl, rfl, b0, b1, b2, b3, b4, b5, b6⟩ := rd_fdbPlace (by simpa [Value.cells] using hf)
  exact ⟨z0, z1, z2, z3, z4, z5, z6, rfl, b0, b1, b2, b3, b4, b5, b6⟩
theorem open_fdbPort {r : Reach} {b0 : Nat} {v : Value} {d : DataW H} {p : List MemPlace} (hv : Value.okWide Try.prog w r b0 54 v) (h : DataW.Trod enc Try.prog w base spare held 54 v d p) :
    ∃ (z0 : Int) (z1 : Int) (z2 : Int) (z3 : Int) (z4 : Int) (z5 : Int) (z6 : Int) (z7 : Int) (z8 : Int), v = .agg #[.int .i64 z0, .int .i64 z1, .int .i64 z2, .int .i64 z3, .int .i64 z4, .int .i64 z5, .int .i64 z6, .int .i64 z7, .int .i64 z8] ∧ In64 z0 ∧ In64 z1 ∧ In64 z2 ∧ In64 z3 ∧ In64 z4 ∧ In64 z5 ∧ In64 z6 ∧ In64 z7 ∧ In64 z8 := by
  have hrow : ∃ cs, v = .agg cs ∧ cs.size = Try.prog.cellsOf 54 ∧ Row.okWide Try.prog w r b0 54 cs := by
    simp only [Value.okWide, Try.underlying54] at hv
    exact hv
  obtain ⟨⟨l⟩, rfl, hsz, _⟩ := hrow
  obtain ⟨c0, c1, c2, c3, c4, c5, c6, c7, c8, rfl⟩ := row_of9 (hsz.trans Try.czfdbPort)
  obtain ⟨fuel, hf⟩ := h
  obtain ⟨z0, z1, z2, z3, z4, z5, z6, z7, z8, rfl, rfl, rfl, rfl, rfl, rfl, rfl, rfl, rfl, b0, b1, b2, b3, b4, b5, b6, b7, b8⟩ := rd_fdbPort (by simpa [Value.cells] using hf)
  exact ⟨z0, z1, z2, z3, z4, z5, z6, z7, z8, rfl, b0, b1, b2, b3, b4, b5, b6, b7, b8⟩
end
/-- The value's elements are these: m cells each. -/
def SlArg (m : Nat) (Ok : List Value → Prop) (w : World) (v : Value) (n : Nat) : Prop :=
  (n = 0 ∧ ∃ a c, v = .slice a 0 c) ∨ (0 < n ∧ ∃ b o c, ∃ F : Nat → List Value, v = .slice (some ⟨b, o, none⟩) n c ∧ b < w.heap.size ∧ ∀ k, k < n → Ok (F k) ∧ (F k).length = m ∧ ∀ j, j < m → w.cell? ⟨b, o + k * m + j, none⟩ = (F k)[j]?)
theorem SlArg.slice {m n : Nat} {Ok : List Value → Prop} {w : World} {v : Value} (h : SlArg m Ok w v n) : ∃ p c, v = .slice p n c := by
  rcases h with ⟨rfl, p, c, rfl⟩ | ⟨_, b, o, c, F, rfl, _⟩
  · exact ⟨p, c, rfl⟩
  · exact ⟨_, c, rfl⟩
theorem SlArg.at {m n c : Nat} {Ok : List Value → Prop} {w : World} {p : Option Addr} (h : SlArg m Ok w (.slice p n c) n) (h0 : 0 < n) : ∃ b o, ∃ F : Nat → List Value, p = some ⟨b, o, none⟩ ∧ b < w.heap.size ∧ ∀ k, k < n → Ok (F k) ∧ (F k).length = m ∧ ∀ j, j < m → w.cell? ⟨b, o + k * m + j, none⟩ = (F k)[j]? := by
  rcases h with ⟨e, _⟩ | ⟨_, b, o, c', F, e, h1, h2⟩
  · omega
  · injection e with e1 e2 e3
    exact ⟨b, o, F, e1, h1, h2⟩
theorem slice_same {m n n' c : Nat} {Ok : List Value → Prop} {w : World} {p : Option Addr} (h : SlArg m Ok w (.slice p n c) n') : n = n' := by
  obtain ⟨p', c', e⟩ := h.slice
  injection e
section
variable {H : Type} {enc : TypeId × Value → H} {P : Program} {w : World} {base : Nat} {spare : Nat → Bool} {held : Bool}
theorem trodAll_five {t0 t1 t2 t3 t4 : TypeId} {args : Array Value} {ds : List (DataW H)} {ps : List MemPlace} (h : DataW.TrodAll enc P w base spare held [t0, t1, t2, t3, t4] args.toList ds ps) :
    ∃ v0 v1 v2 v3 v4 d0 d1 d2 d3 d4 p0 p1 p2 p3 p4, args = #[v0, v1, v2, v3, v4] ∧ ds = [d0, d1, d2, d3, d4] ∧ ps = p0 ++ p1 ++ p2 ++ p3 ++ p4 ∧ DataW.Trod enc P w base spare held t0 v0 d0 p0 ∧ DataW.Trod enc P w base spare held t1 v1 d1 p1 ∧ DataW.Trod enc P w base spare held t2 v2 d2 p2 ∧ DataW.Trod enc P w base spare held t3 v3 d3 p3 ∧ DataW.Trod enc P w base spare held t4 v4 d4 p4 := by
  obtain ⟨v0, vs, d0, ds', p0, q, hargs, rfl, rfl, h0, hr⟩ := trodAll_cons h
  obtain ⟨v1, vs1, d1, ds1, p1, q1, rfl, rfl, rfl, h1, hr1⟩ := trodAll_cons hr
  obtain ⟨v2, vs2, d2, ds2, p2, q2, rfl, rfl, rfl, h2, hr2⟩ := trodAll_cons hr1
  obtain ⟨v3, vs3, d3, ds3, p3, q3, rfl, rfl, rfl, h3, hr3⟩ := trodAll_cons hr2
  obtain ⟨v4, vs4, d4, ds4, p4, q4, rfl, rfl, rfl, h4, hr4⟩ := trodAll_cons hr3
  obtain ⟨rfl, rfl, rfl⟩ := trodAll_nil hr4
  exact ⟨v0, v1, v2, v3, v4, d0, d1, d2, d3, d4, p0, p1, p2, p3, p4, by cases args; simp_all, rfl, by simp, h0, h1, h2, h3, h4⟩
theorem trodAll_mk5 {t0 t1 t2 t3 t4 : TypeId} {v0 v1 v2 v3 v4 : Value} {d0 d1 d2 d3 d4 : DataW H} {p0 p1 p2 p3 p4 : List MemPlace} (h0 : DataW.Trod enc P w base spare held t0 v0 d0 p0) (h1 : DataW.Trod enc P w base spare held t1 v1 d1 p1)
    (h2 : DataW.Trod enc P w base spare held t2 v2 d2 p2) (h3 : DataW.Trod enc P w base spare held t3 v3 d3 p3) (h4 : DataW.Trod enc P w base spare held t4 v4 d4 p4) : DataW.TrodAll enc P w base spare held [t0, t1, t2, t3, t4] [v0, v1, v2, v3, v4] [d0, d1, d2, d3, d4] (p0 ++ (p1 ++ (p2 ++ (p3 ++ p4)))) := ⟨p0, p1 ++ (p2 ++ (p3 ++ p4)), h0, trodAll_mk4 h1 h2 h3 h4, rfl⟩
end
def Oksandglasslaw09Op (l : List Value) : Prop := ∃ (z0 : Int) (z1 : Int) (z2 : Int) (z3 : Int) (z4 : Bool) (z5 : Int) (z6 : Nat) (z7 : Nat) (z8 : Nat) (z9 : Nat) (z10 : Nat) (z11 : Nat) (z12 : Int) (z13 : Int) (z14 : Int) (z15 : Int) (z16 : Int) (z17 : Int) (z18 : Int) (z19 : Int) (z20 : Int), l = [.int .i64 z0, .int .i64 z1, .int .i64 z2, .int .i64 z3, .bool z4, .int .i64 z5, .int .u8 (z6 : Int), .int .u8 (z7 : Int), .int .u8 (z8 : Int), .int .u8 (z9 : Int), .int .u8 (z10 : Int), .int .u8 (z11 : Int), .int .i64 z12, .int .i64 z13, .int .i64 z14, .int .i64 z15, .int .i64 z16, .int .i64 z17, .int .i64 z18, .int .i64 z19, .int .i64 z20] ∧ In64 z0 ∧ In64 z1 ∧ In64 z2 ∧ In64 z3 ∧ In64 z5 ∧ z6 < 256 ∧ z7 < 256 ∧ z8 < 256 ∧ z9 < 256 ∧ z10 < 256 ∧ z11 < 256 ∧ In64 z12 ∧ In64 z13 ∧ In64 z14 ∧ In64 z15 ∧ In64 z16 ∧ In64 z17 ∧ In64 z18 ∧ In64 z19 ∧ In64 z20
set_option maxRecDepth 100000 in
theorem opens_sandglasslaw09Op {H : Type} {enc : TypeId × Value → H} {w : World} {base : Nat} {spare : Nat → Bool} {held : Bool} {a0 : Option Addr} {len cap : Nat} {d : DataW H} {p : List MemPlace}
    (h : DataW.Trod enc Try.prog w base spare held 22 (.slice a0 len cap) d p) : SlArg 21 Oksandglasslaw09Op w (.slice a0 len cap) len := by
  obtain ⟨fuel, hf⟩ := h
  rcases open_slice Try.underlying22 hf with ⟨hcs, _⟩ | ⟨a, len', cap', m, n, D, Pl, hcs, _, hl, _, hm, _, hi⟩
  · simp [Value.cells] at hcs
    obtain ⟨rfl, rfl, rfl⟩ := hcs
    exact .inl ⟨rfl, _, _, rfl⟩
  · simp [Value.cells] at hcs
    obtain ⟨rfl, rfl, rfl⟩ := hcs
    rcases Nat.eq_zero_or_pos len with h0 | h0
    · subst h0
      exact .inl ⟨rfl, _, _, rfl⟩
    have hlm : len ≤ m := by rw [hm]; split <;> omega
    have each : ∀ i, i < len → ∃ l : List Value, Oksandglasslaw09Op l ∧ l.length = 21 ∧ ∀ j, j < 21 → w.cell? ((a.add (i * 21)).add j) = l[j]? := by
      intro i hil
      obtain ⟨cs', hc, ht⟩ := hi i (by omega)
      rw [Try.czsandglasslaw09Op] at hc
      obtain ⟨_, hcl, hat⟩ := World.cells?_some hc
      refine ⟨cs', ?_, hcl, hat⟩
      · clear hat
        obtain ⟨c0, c1, c2, c3, c4, c5, c6, c7, c8, c9, c10, c11, c12, c13, c14, c15, c16, c17, c18, c19, c20, rfl⟩ := row_of21 hcl
        obtain ⟨z0, z1, z2, z3, z4, z5, z6, z7, z8, z9, z10, z11, z12, z13, z14, z15, z16, z17, z18, z19, z20, rfl, rfl, rfl, rfl, rfl, rfl, rfl, rfl, rfl, rfl, rfl, rfl, rfl, rfl, rfl, rfl, rfl, rfl, rfl, rfl, rfl, b0, b1, b2, b3, b5, b6, b7, b8, b9, b10, b11, b12, b13, b14, b15, b16, b17, b18, b19, b20⟩ := rd_sandglasslaw09Op ht
        exact ⟨z0, z1, z2, z3, z4, z5, z6, z7, z8, z9, z10, z11, z12, z13, z14, z15, z16, z17, z18, z19, z20, rfl, b0, b1, b2, b3, b5, b6, b7, b8, b9, b10, b11, b12, b13, b14, b15, b16, b17, b18, b19, b20⟩
    obtain ⟨F, hF⟩ := choose_lt each
    obtain ⟨b, o, spot⟩ := a
    have hc0 := (hF 0 h0).2.2 0 (by omega)
    have hl0 := (hF 0 h0).2.1
    rw [List.getElem?_eq_getElem (by omega)] at hc0
    have hspot : spot = none := by
      have := World.cell?_spot hc0
      simpa [Addr.add] using this
    subst hspot
    refine .inr ⟨h0, b, o, cap, F, rfl, ?_, fun k hk => ⟨(hF k hk).1, (hF k hk).2.1, fun j hj => ?_⟩⟩
    · have := block_of_cell hc0
      simpa [block_add] using this
    · have h1 := (hF k hk).2.2 j hj
      rw [add_flat, add_flat] at h1
      exact h1
def Okint (l : List Value) : Prop := ∃ (z0 : Int), l = [.int .i64 z0] ∧ In64 z0
set_option maxRecDepth 100000 in
theorem opens_int {H : Type} {enc : TypeId × Value → H} {w : World} {base : Nat} {spare : Nat → Bool} {held : Bool} {a0 : Option Addr} {len cap : Nat} {d : DataW H} {p : List MemPlace}
    (h : DataW.Trod enc Try.prog w base spare held 69 (.slice a0 len cap) d p) : SlArg 1 Okint w (.slice a0 len cap) len := by
  obtain ⟨fuel, hf⟩ := h
  rcases open_slice Try.underlying69 hf with ⟨hcs, _⟩ | ⟨a, len', cap', m, n, D, Pl, hcs, _, hl, _, hm, _, hi⟩
  · simp [Value.cells] at hcs
    obtain ⟨rfl, rfl, rfl⟩ := hcs
    exact .inl ⟨rfl, _, _, rfl⟩
  · simp [Value.cells] at hcs
    obtain ⟨rfl, rfl, rfl⟩ := hcs
    rcases Nat.eq_zero_or_pos len with h0 | h0
    · subst h0
      exact .inl ⟨rfl, _, _, rfl⟩
    have hlm : len ≤ m := by rw [hm]; split <;> omega
    have each : ∀ i, i < len → ∃ l : List Value, Okint l ∧ l.length = 1 ∧ ∀ j, j < 1 → w.cell? ((a.add (i * 1)).add j) = l[j]? := by
      intro i hil
      obtain ⟨cs', hc, ht⟩ := hi i (by omega)
      rw [Try.czint] at hc
      obtain ⟨_, hcl, hat⟩ := World.cells?_some hc
      refine ⟨cs', ?_, hcl, hat⟩
      · clear hat
        obtain ⟨z0, g0, _, w0⟩ := DataW.trod_int Try.underlying3 ht
        exact ⟨z0, g0, in_of_wf w0⟩
    obtain ⟨F, hF⟩ := choose_lt each
    obtain ⟨b, o, spot⟩ := a
    have hc0 := (hF 0 h0).2.2 0 (by omega)
    have hl0 := (hF 0 h0).2.1
    rw [List.getElem?_eq_getElem (by omega)] at hc0
    have hspot : spot = none := by
      have := World.cell?_spot hc0
      simpa [Addr.add] using this
    subst hspot
    refine .inr ⟨h0, b, o, cap, F, rfl, ?_, fun k hk => ⟨(hF k hk).1, (hF k hk).2.1, fun j hj => ?_⟩⟩
    · have := block_of_cell hc0
      simpa [block_add] using this
    · have h1 := (hF k hk).2.2 j hj
      rw [add_flat, add_flat] at h1
      exact h1
def Okuint8 (l : List Value) : Prop := ∃ (z0 : Nat), l = [.int .u8 (z0 : Int)] ∧ z0 < 256
set_option maxRecDepth 100000 in
theorem opens_uint8 {H : Type} {enc : TypeId × Value → H} {w : World} {base : Nat} {spare : Nat → Bool} {held : Bool} {a0 : Option Addr} {len cap : Nat} {d : DataW H} {p : List MemPlace}
    (h : DataW.Trod enc Try.prog w base spare held 73 (.slice a0 len cap) d p) : SlArg 1 Okuint8 w (.slice a0 len cap) len := by
  obtain ⟨fuel, hf⟩ := h
  rcases open_slice Try.underlying73 hf with ⟨hcs, _⟩ | ⟨a, len', cap', m, n, D, Pl, hcs, _, hl, _, hm, _, hi⟩
  · simp [Value.cells] at hcs
    obtain ⟨rfl, rfl, rfl⟩ := hcs
    exact .inl ⟨rfl, _, _, rfl⟩
  · simp [Value.cells] at hcs
    obtain ⟨rfl, rfl, rfl⟩ := hcs
    rcases Nat.eq_zero_or_pos len with h0 | h0
    · subst h0
      exact .inl ⟨rfl, _, _, rfl⟩
    have hlm : len ≤ m := by rw [hm]; split <;> omega
    have each : ∀ i, i < len → ∃ l : List Value, Okuint8 l ∧ l.length = 1 ∧ ∀ j, j < 1 → w.cell? ((a.add (i * 1)).add j) = l[j]? := by
      intro i hil
      obtain ⟨cs', hc, ht⟩ := hi i (by omega)
      rw [Try.czuint8] at hc
      obtain ⟨_, hcl, hat⟩ := World.cells?_some hc
      refine ⟨cs', ?_, hcl, hat⟩
      · clear hat
        obtain ⟨z0, g0, _, w0⟩ := DataW.trod_int Try.underlying5 ht
        obtain ⟨y, rfl, hy⟩ := nat_of_u8 w0
        exact ⟨y, g0, hy⟩
    obtain ⟨F, hF⟩ := choose_lt each
    obtain ⟨b, o, spot⟩ := a
    have hc0 := (hF 0 h0).2.2 0 (by omega)
    have hl0 := (hF 0 h0).2.1
    rw [List.getElem?_eq_getElem (by omega)] at hc0
    have hspot : spot = none := by
      have := World.cell?_spot hc0
      simpa [Addr.add] using this
    subst hspot
    refine .inr ⟨h0, b, o, cap, F, rfl, ?_, fun k hk => ⟨(hF k hk).1, (hF k hk).2.1, fun j hj => ?_⟩⟩
    · have := block_of_cell hc0
      simpa [block_add] using this
    · have h1 := (hF k hk).2.2 j hj
      rw [add_flat, add_flat] at h1
      exact h1

end Go.Proofs.Ytkbodcgamfkegaa
