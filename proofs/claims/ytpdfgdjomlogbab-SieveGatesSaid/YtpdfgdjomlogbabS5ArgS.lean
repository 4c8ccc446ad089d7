/- Arguments that are structs, or slices of them: what is read of them. -/
import Derived.Test.YtpdfgdjomlogbabSvMem
import Derived.Test.YtpdfgdjomlogbabPost
import Derived.Deep.Slices
import Derived.Deep.Fields
namespace Go.Proofs.Ytpdfgdjomlogbab
open Go.RowKit Go.WideShapes Go.ChangeShapes Go.ChangeAt Go.Joins Go.Deep

theorem Try.laidOut : laidOutB Try.prog = true := by kernel_rfl
theorem block_of_cell {w : World} {a : Addr} {v : Value} (h : w.cell? a = some v) : a.block < w.heap.size := World.block_lt_of_cell? _ _ h
theorem add_flat (b o i : Nat) : (⟨b, o, none⟩ : Addr).add i = ⟨b, o + i, none⟩ := by unfold Addr.add; split <;> simp_all
theorem nat_of_u8 {n : Int} (h : (Lit.int .u8 n).wf = true) : ∃ x : Nat, n = (x : Int) ∧ x < 256 := by
  have := bounds_u8 h
  exact ⟨n.toNat, by omega, by omega⟩
theorem in_of_wf {n : Int} (h : (Lit.int .i64 n).wf = true) : In64 n := by
  have := bounds_i64 h
  exact ⟨by omega, by omega⟩
theorem Try.czint : Try.prog.cellsOf 3 = 1 := by kernel_rfl
theorem Try.czbool : Try.prog.cellsOf 4 = 1 := by kernel_rfl
theorem Try.czuint8 : Try.prog.cellsOf 5 = 1 := by kernel_rfl
theorem Try.czapiMac : Try.prog.cellsOf 26 = 6 := by kernel_rfl
theorem Try.czsieveStream : Try.prog.cellsOf 28 = 14 := by kernel_rfl
theorem Try.czsandglasslaw12Step : Try.prog.cellsOf 34 = 19 := by kernel_rfl

section
variable {H : Type} {enc : TypeId × Value → H} {w : World} {base : Nat} {spare : Nat → Bool} {held : Bool}
set_option maxHeartbeats 1000000 in
theorem rd_apiMac {n : Nat} {c0 c1 c2 c3 c4 c5 : Value} {x : DataW H × List MemPlace} (h : DataW.trod enc Try.prog w base spare held n 26 [c0, c1, c2, c3, c4, c5] = some x) :
    ∃ (z0 : Nat) (z1 : Nat) (z2 : Nat) (z3 : Nat) (z4 : Nat) (z5 : Nat), c0 = .int .u8 (z0 : Int) ∧ c1 = .int .u8 (z1 : Int) ∧ c2 = .int .u8 (z2 : Int) ∧ c3 = .int .u8 (z3 : Int) ∧ c4 = .int .u8 (z4 : Int) ∧ c5 = .int .u8 (z5 : Int) ∧ z0 < 256 ∧ z1 < 256 ∧ z2 < 256 ∧ z3 < 256 ∧ z4 < 256 ∧ z5 < 256 := by
  obtain ⟨xs, m, _, _, _, hl, hall⟩ := DataW.trod_array Try.underlying26 h
  have one : ∀ i, i < 6 → ∃ y : Nat, ([c0, c1, c2, c3, c4, c5].drop i).take 1 = [.int .u8 (y : Int)] ∧ y < 256 := by
    intro i hi
    have h1 := hall i hi
    rw [Try.czuint8, Nat.mul_one, List.getElem?_eq_getElem (by omega)] at h1
    obtain ⟨z, hz, _, hw⟩ := DataW.trod_int Try.underlying5 h1
    obtain ⟨y, rfl, hy⟩ := nat_of_u8 hw
    exact ⟨y, hz, hy⟩
  obtain ⟨z0, g0, b0⟩ := one 0 (by omega)
  injection g0 with g0
  obtain ⟨z1, g1, b1⟩ := one 1 (by omega)
  injection g1 with g1
  obtain ⟨z2, g2, b2⟩ := one 2 (by omega)
  injection g2 with g2
  obtain ⟨z3, g3, b3⟩ := one 3 (by omega)
  injection g3 with g3
  obtain ⟨z4, g4, b4⟩ := one 4 (by omega)
  injection g4 with g4
  obtain ⟨z5, g5, b5⟩ := one 5 (by omega)
  injection g5 with g5
  exact ⟨z0, z1, z2, z3, z4, z5, g0, g1, g2, g3, g4, g5, b0, b1, b2, b3, b4, b5⟩
set_option maxHeartbeats 1000000 in
theorem rd_sieveStream {n : Nat} {c0 c1 c2 c3 c4 c5 c6 c7 c8 c9 c10 c11 c12 c13 : Value} {x : DataW H × List MemPlace} (h : DataW.trod enc Try.prog w base spare held n 28 [c0, c1, c2, c3, c4, c5, c6, c7, c8, c9, c10, c11, c12, c13] = some x) :
    ∃ (z0 : Int) (z1 : Int) (z2 : Nat) (z3 : Nat) (z4 : Nat) (z5 : Nat) (z6 : Nat) (z7 : Nat) (z8 : Bool) (z9 : Int) (z10 : Int) (z11 : Int) (z12 : Bool) (z13 : Int), c0 = .int .i64 z0 ∧ c1 = .int .i64 z1 ∧ c2 = .int .u8 (z2 : Int) ∧ c3 = .int .u8 (z3 : Int) ∧ c4 = .int .u8 (z4 : Int) ∧ c5 = .int .u8 (z5 : Int) ∧ c6 = .int .u8 (z6 : Int) ∧ c7 = .int .u8 (z7 : Int) ∧ c8 = .bool z8 ∧ c9 = .int .i64 z9 ∧ c10 = .int .i64 z10 ∧ c11 = .int .i64 z11 ∧ c12 = .bool z12 ∧ c13 = .int .i64 z13 ∧ In64 z0 ∧ In64 z1 ∧ z2 < 256 ∧ z3 < 256 ∧ z4 < 256 ∧ z5 < 256 ∧ z6 < 256 ∧ z7 < 256 ∧ In64 z9 ∧ In64 z10 ∧ In64 z11 ∧ In64 z13 := by
  obtain ⟨xs, m, _, _, _, hl, hall⟩ := DataW.trod_struct Try.underlying28 h
  have hx : ∀ i, i < 9 → ∃ y, xs[i]? = some y := fun i hi => ⟨xs[i]'(by rw [hl]; exact hi), List.getElem?_eq_getElem _⟩
  obtain ⟨y0, hy0⟩ := hx 0 (by omega)
  have t0 := hall 0 _ rfl
  rw [hy0] at t0
  have u0 : DataW.trod enc Try.prog w base spare held m 3 [c0] = some y0 := by
    have e : DataW.trod enc Try.prog w base spare held m 3 ((List.drop 0 [c0, c1, c2, c3, c4, c5, c6, c7, c8, c9, c10, c11, c12, c13]).take (Try.prog.cellsOf 3)) = some y0 := t0
    rw [Try.czint] at e
    exact e
  clear t0
  obtain ⟨z0, g0, _, w0⟩ := DataW.trod_int Try.underlying3 u0
  injection g0 with g0
  obtain ⟨y1, hy1⟩ := hx 1 (by omega)
  have t1 := hall 1 _ rfl
  rw [hy1] at t1
  have u1 : DataW.trod enc Try.prog w base spare held m 3 [c1] = some y1 := by
    have e : DataW.trod enc Try.prog w base spare held m 3 ((List.drop 1 [c0, c1, c2, c3, c4, c5, c6, c7, c8, c9, c10, c11, c12, c13]).take (Try.prog.cellsOf 3)) = some y1 := t1
    rw [Try.czint] at e
    exact e
  clear t1
  obtain ⟨z1, g1, _, w1⟩ := DataW.trod_int Try.underlying3 u1
  injection g1 with g1
  obtain ⟨y2, hy2⟩ := hx 2 (by omega)
  have t2 := hall 2 _ rfl
  rw [hy2] at t2
  have u2 : DataW.trod enc Try.prog w base spare held m 26 [c2, c3, c4, c5, c6, c7] = some y2 := by
    have e : DataW.trod enc Try.prog w base spare held m 26 ((List.drop 2 [c0, c1, c2, c3, c4, c5, c6, c7, c8, c9, c10, c11, c12, c13]).take (Try.prog.cellsOf 26)) = some y2 := t2
    rw [Try.czapiMac] at e
    exact e
  clear t2
  obtain ⟨z2, z3, z4, z5, z6, z7, g2, g3, g4, g5, g6, g7, b2, b3, b4, b5, b6, b7⟩ := rd_apiMac u2
  obtain ⟨y3, hy3⟩ := hx 3 (by omega)
  have t3 := hall 3 _ rfl
  rw [hy3] at t3
  have u3 : DataW.trod enc Try.prog w base spare held m 4 [c8] = some y3 := by
    have e : DataW.trod enc Try.prog w base spare held m 4 ((List.drop 8 [c0, c1, c2, c3, c4, c5, c6, c7, c8, c9, c10, c11, c12, c13]).take (Try.prog.cellsOf 4)) = some y3 := t3
    rw [Try.czbool] at e
    exact e
  clear t3
  obtain ⟨z8, g8, _⟩ := DataW.trod_bool Try.underlying4 u3
  injection g8 with g8
  obtain ⟨y4, hy4⟩ := hx 4 (by omega)
  have t4 := hall 4 _ rfl
  rw [hy4] at t4
  have u4 : DataW.trod enc Try.prog w base spare held m 3 [c9] = some y4 := by
    have e : DataW.trod enc Try.prog w base spare held m 3 ((List.drop 9 [c0, c1, c2, c3, c4, c5, c6, c7, c8, c9, c10, c11, c12, c13]).take (Try.prog.cellsOf 3)) = some y4 := t4
    rw [Try.czint] at e
    exact e
  clear t4
  obtain ⟨z9, g9, _, w9⟩ := DataW.trod_int Try.underlying3 u4
  injection g9 with g9
  obtain ⟨y5, hy5⟩ := hx 5 (by omega)
  have t5 := hall 5 _ rfl
  rw [hy5] at t5
  have u5 : DataW.trod enc Try.prog w base spare held m 3 [c10] = some y5 := by
    have e : DataW.trod enc Try.prog w base spare held m 3 ((List.drop 10 [c0, c1, c2, c3, c4, c5, c6, c7, c8, c9, c10, c11, c12, c13]).take (Try.prog.cellsOf 3)) = some y5 := t5
    rw [Try.czint] at e
    exact e
  clear t5
  obtain ⟨z10, g10, _, w10⟩ := DataW.trod_int Try.underlying3 u5
  injection g10 with g10
  obtain ⟨y6, hy6⟩ := hx 6 (by omega)
  have t6 := hall 6 _ rfl
  rw [hy6] at t6
  have u6 : DataW.trod enc Try.prog w base spare held m 3 [c11] = some y6 := by
    have e : DataW.trod enc Try.prog w base spare held m 3 ((List.drop 11 [c0, c1, c2, c3, c4, c5, c6, c7, c8, c9, c10, c11, c12, c13]).take (Try.prog.cellsOf 3)) = some y6 := t6
    rw [Try.czint] at e
    exact e
  clear t6
  obtain ⟨z11, g11, _, w11⟩ := DataW.trod_int Try.underlying3 u6
  injection g11 with g11
  obtain ⟨y7, hy7⟩ := hx 7 (by omega)
  have t7 := hall 7 _ rfl
  rw [hy7] at t7
  have u7 : DataW.trod enc Try.prog w base spare held m 4 [c12] = some y7 := by
    have e : DataW.trod enc Try.prog w base spare held m 4 ((List.drop 12 [c0, c1, c2, c3, c4, c5, c6, c7, c8, c9, c10, c11, c12, c13]).take (Try.prog.cellsOf 4)) = some y7 := t7
    rw [Try.czbool] at e
    exact e
  clear t7
  obtain ⟨z12, g12, _⟩ := DataW.trod_bool Try.underlying4 u7
  injection g12 with g12
  obtain ⟨y8, hy8⟩ := hx 8 (by omega)
  have t8 := hall 8 _ rfl
  rw [hy8] at t8
  have u8 : DataW.trod enc Try.prog w base spare held m 3 [c13] = some y8 := by
    have e : DataW.trod enc Try.prog w base spare held m 3 ((List.drop 13 [c0, c1, c2, c3, c4, c5, c6, c7, c8, c9, c10, c11, c12, c13]).take (Try.prog.cellsOf 3)) = some y8 := t8
    rw [Try.czint] at e
    exact e
  clear t8
  obtain ⟨z13, g13, _, w13⟩ := DataW.trod_int Try.underlying3 u8
  injection g13 with g13
  exact ⟨z0, z1, z2, z3, z4, z5, z6, z7, z8, z9, z10, z11, z12, z13, g0, g1, g2, g3, g4, g5, g6, g7, g8, g9, g10, g11, g12, g13, in_of_wf w0, in_of_wf w1, b2, b3, b4, b5, b6, b7, in_of_wf w9, in_of_wf w10, in_of_wf w11, in_of_wf w13⟩
set_option maxHeartbeats 1000000 in
theorem rd_sandglasslaw12Step {n : Nat} {c0 c1 c2 c3 c4 c5 c6 c7 c8 c9 c10 c11 c12 c13 c14 c15 c16 c17 c18 : Value} {x : DataW H × List MemPlace} (h : DataW.trod enc Try.prog w base spare held n 34 [c0, c1, c2, c3, c4, c5, c6, c7, c8, c9, c10, c11, c12, c13, c14, c15, c16, c17, c18] = some x) :
    ∃ (z0 : Bool) (z1 : Int) (z2 : Int) (z3 : Int) (z4 : Int) (z5 : Nat) (z6 : Nat) (z7 : Nat) (z8 : Nat) (z9 : Nat) (z10 : Nat) (z11 : Nat) (z12 : Nat) (z13 : Nat) (z14 : Nat) (z15 : Nat) (z16 : Nat) (z17 : Int) (z18 : Int), c0 = .bool z0 ∧ c1 = .int .i64 z1 ∧ c2 = .int .i64 z2 ∧ c3 = .int .i64 z3 ∧ c4 = .int .i64 z4 ∧ c5 = .int .u8 (z5 : Int) ∧ c6 = .int .u8 (z6 : Int) ∧ c7 = .int .u8 (z7 : Int) ∧ c8 = .int .u8 (z8 : Int) ∧ c9 = .int .u8 (z9 : Int) ∧ c10 = .int .u8 (z10 : Int) ∧ c11 = .int .u8 (z11 : Int) ∧ c12 = .int .u8 (z12 : Int) ∧ c13 = .int .u8 (z13 : Int) ∧ c14 = .int .u8 (z14 : Int) ∧ c15 = .int .u8 (z15 : Int) ∧ c16 = .int .u8 (z16 : Int) ∧ c17 = .int .i64 z17 ∧ c18 = .int .i64 z18 ∧ In64 z1 ∧ In64 z2 ∧ In64 z3 ∧ In64 z4 ∧ z5 < 256 ∧ z6 < 256 ∧ z7 < 256 ∧ z8 < 256 ∧ z9 < 256 ∧ z10 < 256 ∧ z11 < 256 ∧ z12 < 256 ∧ z13 < 256 ∧ z14 < 256 ∧ z15 < 256 ∧ z16 < 256 ∧ In64 z17 ∧ In64 z18 := by
  obtain ⟨xs, m, _, _, _, hl, hall⟩ := DataW.trod_struct Try.underlying34 h
  have hx : ∀ i, i < 9 → ∃ y, xs[i]? = some y := fun i hi => ⟨xs[i]'(by rw [hl]; exact hi), List.getElem?_eq_getElem _⟩
  obtain ⟨y0, hy0⟩ := hx 0 (by omega)
  have t0 := hall 0 _ rfl
  rw [hy0] at t0
  have u0 : DataW.trod enc Try.prog w base spare held m 4 [c0] = some y0 := by
    have e : DataW.trod enc Try.prog w base spare held m 4 ((List.drop 0 [c0, c1, c2, c3, c4, c5, c6, c7, c8, c9, c10, c11, c12, c13, c14, c15, c16, c17, c18]).take (Try.prog.cellsOf 4)) = some y0 := t0
    rw [Try.czbool] at e
    exact e
  clear t0
  obtain ⟨z0, g0, _⟩ := DataW.trod_bool Try.underlying4 u0
  injection g0 with g0
  obtain ⟨y1, hy1⟩ := hx 1 (by omega)
  have t1 := hall 1 _ rfl
  rw [hy1] at t1
  have u1 : DataW.trod enc Try.prog w base spare held m 3 [c1] = some y1 := by
    have e : DataW.trod enc Try.prog w base spare held m 3 ((List.drop 1 [c0, c1, c2, c3, c4, c5, c6, c7, c8, c9, c10, c11, c12, c13, c14, c15, c16, c17, c18]).take (Try.prog.cellsOf 3)) = some y1 := t1
    rw [Try.czint] at e
    exact e
  clear t1
  obtain ⟨z1, g1, _, w1⟩ := DataW.trod_int Try.underlying3 u1
  injection g1 with g1
  obtain ⟨y2, hy2⟩ := hx 2 (by omega)
  have t2 := hall 2 _ rfl
  rw [hy2] at t2
  have u2 : DataW.trod enc Try.prog w base spare held m 3 [c2] = some y2 := by
    have e : DataW.trod enc Try.prog w base spare held m 3 ((List.drop 2 [c0, c1, c2, c3, c4, c5, c6, c7, c8, c9, c10, c11, c12, c13, c14, c15, c16, c17, c18]).take (Try.prog.cellsOf 3)) = some y2 := t2
    rw [Try.czint] at e
    exact e
  clear t2
  obtain ⟨z2, g2, _, w2⟩ := DataW.trod_int Try.underlying3 u2
  injection g2 with g2
  obtain ⟨y3, hy3⟩ := hx 3 (by omega)
  have t3 := hall 3 _ rfl
  rw [hy3] at t3
  have u3 : DataW.trod enc Try.prog w base spare held m 3 [c3] = some y3 := by
    have e : DataW.trod enc Try.prog w base spare held m 3 ((List.drop 3 [c0, c1, c2, c3, c4, c5, c6, c7, c8, c9, c10, c11, c12, c13, c14, c15, c16, c17, c18]).take (Try.prog.cellsOf 3)) = some y3 := t3
    rw [Try.czint] at e
    exact e
  clear t3
  obtain ⟨z3, g3, _, w3⟩ := DataW.trod_int Try.underlying3 u3
  injection g3 with g3
  obtain ⟨y4, hy4⟩ := hx 4 (by omega)
  have t4 := hall 4 _ rfl
  rw [hy4] at t4
  have u4 : DataW.trod enc Try.prog w base spare held m 3 [c4] = some y4 := by
    have e : DataW.trod enc Try.prog w base spare held m 3 ((List.drop 4 [c0, c1, c2, c3, c4, c5, c6, c7, c8, c9, c10, c11, c12, c13, c14, c15, c16, c17, c18]).take (Try.prog.cellsOf 3)) = some y4 := t4
    rw [Try.czint] at e
    exact e
  clear t4
  obtain ⟨z4, g4, _, w4⟩ := DataW.trod_int Try.underlying3 u4
  injection g4 with g4
  obtain ⟨y5, hy5⟩ := hx 5 (by omega)
  have t5 := hall 5 _ rfl
  rw [hy5] at t5
  have u5 : DataW.trod enc Try.prog w base spare held m 26 [c5, c6, c7, c8, c9, c10] = some y5 := by
    have e : DataW.trod enc Try.prog w base spare held m 26 ((List.drop 5 [c0, c1, c2, c3, c4, c5, c6, c7, c8, c9, c10, c11, c12, c13, c14, c15, c16, c17, c18]).take (Try.prog.cellsOf 26)) = some y5 := t5
    rw [Try.czapiMac] at e
    exact e
  clear t5
  obtain ⟨z5, z6, z7, z8, z9, z10, g5, g6, g7, g8, g9, g10, b5, b6, b7, b8, b9, b10⟩ := rd_apiMac u5
  obtain ⟨y6, hy6⟩ := hx 6 (by omega)
  have t6 := hall 6 _ rfl
  rw [hy6] at t6
  have u6 : DataW.trod enc Try.prog w base spare held m 26 [c11, c12, c13, c14, c15, c16] = some y6 := by
    have e : DataW.trod enc Try.prog w base spare held m 26 ((List.drop 11 [c0, c1, c2, c3, c4, c5, c6, c7, c8, c9, c10, c11, c12, c13, c14, c15, c16, c17, c18]).take (Try.prog.cellsOf 26)) = some y6 := t6
    rw [Try.czapiMac] at e
    exact e
  clear t6
  obtain ⟨z11, z12, z13, z14, z15, z16, g11, g12, g13, g14, g15, g16, b11, b12, b13, b14, b15, b16⟩ := rd_apiMac u6
  obtain ⟨y7, hy7⟩ := hx 7 (by omega)
  have t7 := hall 7 _ rfl
  rw [hy7] at t7
  have u7 : DataW.trod enc Try.prog w base spare held m 3 [c17] = some y7 := by
    have e : DataW.trod enc Try.prog w base spare held m 3 ((List.drop 17 [c0, c1, c2, c3, c4, c5, c6, c7, c8, c9, c10, c11, c12, c13, c14, c15, c16, c17, c18]).take (Try.prog.cellsOf 3)) = some y7 := t7
    rw [Try.czint] at e
    exact e
  clear t7
  obtain ⟨z17, g17, _, w17⟩ := DataW.trod_int Try.underlying3 u7
  injection g17 with g17
  obtain ⟨y8, hy8⟩ := hx 8 (by omega)
  have t8 := hall 8 _ rfl
  rw [hy8] at t8
  have u8 : DataW.trod enc Try.prog w base spare held m 3 [c18] = some y8 := by
    have e : DataW.trod enc Try.prog w base spare held m 3 ((List.drop 18 [c0, c1, c2, c3, c4, c5, c6, c7, c8, c9, c10, c11, c12, c13, c14, c15, c16, c17, c18]).take (Try.prog.cellsOf 3)) = some y8 := t8
    rw [Try.czint] at e
    exact e
  clear t8
  obtain ⟨z18, g18, _, w18⟩ := DataW.trod_int Try.underlying3 u8
  injection g18 with g18
  exact ⟨z0, z1, z2, z3, z4, z5, z6, z7, z8, z9, z10, z11, z12, z13, z14, z15, z16, z17, z18, g0, g1, g2, g3, g4, g5, g6, g7, g8, g9, g10, g11, g12, g13, g14, g15, g16, g17, g18, in_of_wf w1, in_of_wf w2, in_of_wf w3, in_of_wf w4, b5, b6, b7, b8, b9, b10, b11, b12, b13, b14, b15, b16, in_of_wf w17, in_of_wf w18⟩
end
theorem row_of6 {l : List Value} (h : l.length = 6) : ∃ c0 c1 c2 c3 c4 c5, l = [c0, c1, c2, c3, c4, c5] := by
  match l, h with
  | [c0, c1, c2, c3, c4, c5], _ => exact ⟨c0, c1, c2, c3, c4, c5, rfl⟩
theorem row_of14 {l : List Value} (h : l.length = 14) : ∃ c0 c1 c2 c3 c4 c5 c6 c7 c8 c9 c10 c11 c12 c13, l = [c0, c1, c2, c3, c4, c5, c6, c7, c8, c9, c10, c11, c12, c13] := by
  match l, h with
  | [c0, c1, c2, c3, c4, c5, c6, c7, c8, c9, c10, c11, c12, c13], _ => exact ⟨c0, c1, c2, c3, c4, c5, c6, c7, c8, c9, c10, c11, c12, c13, rfl⟩
theorem row_of19 {l : List Value} (h : l.length = 19) : ∃ c0 c1 c2 c3 c4 c5 c6 c7 c8 c9 c10 c11 c12 c13 c14 c15 c16 c17 c18, l = [c0, c1, c2, c3, c4, c5, c6, c7, c8, c9, c10, c11, c12, c13, c14, c15, c16, c17, c18] := by
  match l, h with
  | [c0, c1, c2, c3, c4, c5, c6, c7, c8, c9, c10, c11, c12, c13, c14, c15, c16, c17, c18], _ => exact ⟨c0, c1, c2, c3, c4, c5, c6, c7, c8, c9, c10, c11, c12, c13, c14, c15, c16, c17, c18, rfl⟩
section
variable {H : Type} {enc : TypeId × Value → H} {w : World} {base : Nat} {spare : Nat → Bool} {held : Bool}
theorem open_sieveStream {r : Reach} {b0 : Nat} {v : Value} {d : DataW H} {p : List MemPlace} (hv : Value.okWide Try.prog w r b0 28 v) (h : DataW.Trod enc Try.prog w base spare held 28 v d p) :
    ∃ (z0 : Int) (z1 : Int) (z2 : Nat) (z3 : Nat) (z4 : Nat) (z5 : Nat) (z6 : Nat) (z7 : Nat) (z8 : Bool) (z9 : Int) (z10 : Int) (z11 : Int) (z12 : Bool) (z13 : Int), v = .agg #[.int .i64 z0, .int .i64 z1, .int .u8 (z2 : Int), .int .u8 (z3 : Int), .int .u8 (z4 : Int), .int .u8 (z5 : Int), .int .u8 (z6 : Int), .int .u8 (z7 : Int), .bool z8, .int .i64 z9, .int .i64 z10, .int .i64 z11, .bool z12, .int .i64 z13] ∧ In64 z0 ∧ In64 z1 ∧ z2 < 256 ∧ z3 < 256 ∧ z4 < 256 ∧ z5 < 256 ∧ z6 < 256 ∧ z7 < 256 ∧ In64 z9 ∧ In64 z10 ∧ In64 z11 ∧ In64 z13 := by
  have hrow : ∃ cs, v = .agg cs ∧ cs.size = Try.prog.cellsOf 28 ∧ Row.okWide Try.prog w r b0 28 cs := by
    simp only [Value.okWide, Try.underlying28] at hv
    exact hv
  obtain ⟨⟨l⟩, rfl, hsz, _⟩ := hrow
  obtain ⟨c0, c1, c2, c3, c4, c5, c6, c7, c8, c9, c10, c11, c12, c13, rfl⟩ := row_of14 (hsz.trans Try.czsieveStream)
  obtain ⟨fuel, hf⟩ := h
  obtain ⟨z0, z1, z2, z3, z4, z5, z6, z7, z8, z9, z10, z11, z12, z13, rfl, rfl, rfl, rfl, rfl, rfl, rfl, rfl, rfl, rfl, rfl, rfl, rfl, rfl, b0, b1, b2, b3, b4, b5, b6, b7, b9, b10, b11, b13⟩ := rd_sieveStream (by simpa [Value.cells] using hf)
  exact ⟨z0, z1, z2, z3, z4, z5, z6, z7, z8, z9, z10, z11, z12, z13, rfl, b0, b1, b2, b3, b4, b5, b6, b7, b9, b10, b11, b13⟩
theorem open_apiMac {r : Reach} {b0 : Nat} {v : Value} {d : DataW H} {p : List MemPlace} (hv : Value.okWide Try.prog w r b0 26 v) (h : DataW.Trod enc Try.prog w base spare held 26 v d p) :
    ∃ (z0 : Nat) (z1 : Nat) (z2 : Nat) (z3 : Nat) (z4 : Nat) (z5 : Nat), v = .agg #[.int .u8 (z0 : Int), .int .u8 (z1 : Int), .int .u8 (z2 : Int), .int .u8 (z3 : Int), .int .u8 (z4 : Int), .int .u8 (z5 : Int)] ∧ z0 < 256 ∧ z1 < 256 ∧ z2 < 256 ∧ z3 < 256 ∧ z4 < 256 ∧ z5 < 256 := by
  have hrow : ∃ cs, v = .agg cs ∧ cs.size = Try.prog.cellsOf 26 ∧ Row.okWide Try.prog w r b0 26 cs := by
    simp only [Value.okWide, Try.underlying26] at hv
    exact hv
  obtain ⟨⟨l⟩, rfl, hsz, _⟩ := hrow
  obtain ⟨c0, c1, c2, c3, c4, c5, rfl⟩ := row_of6 (hsz.trans Try.czapiMac)
  obtain ⟨fuel, hf⟩ := h
  obtain ⟨z0, z1, z2, z3, z4, z5, rfl, rfl, rfl, rfl, rfl, rfl, b0, b1, b2, b3, b4, b5⟩ := rd_apiMac (by simpa [Value.cells] using hf)
  exact ⟨z0, z1, z2, z3, z4, z5, rfl, b0, b1, b2, b3, b4, b5⟩
theorem open_sandglasslaw12Step {r : Reach} {b0 : Nat} {v : Value} {d : DataW H} {p : List MemPlace} (hv : Value.okWide Try.prog w r b0 34 v) (h : DataW.Trod enc Try.prog w base spare held 34 v d p) :
    ∃ (z0 : Bool) (z1 : Int) (z2 : Int) (z3 : Int) (z4 : Int) (z5 : Nat) (z6 : Nat) (z7 : Nat) (z8 : Nat) (z9 : Nat) (z10 : Nat) (z11 : Nat) (z12 : Nat) (z13 : Nat) (z14 : Nat) (z15 : Nat) (z16 : Nat) (z17 : Int) (z18 : Int), v = .agg #[.bool z0, .int .i64 z1, .int .i64 z2, .int .i64 z3, .int .i64 z4, .int .u8 (z5 : Int), .int .u8 (z6 : Int), .int .u8 (z7 : Int), .int .u8 (z8 : Int), .int .u8 (z9 : Int), .int .u8 (z10 : Int), .int .u8 (z11 : Int), .int .u8 (z12 : Int), .int .u8 (z13 : Int), .int .u8 (z14 : Int), .int .u8 (z15 : Int), .int .u8 (z16 : Int), .int .i64 z17, .int .i64 z18] ∧ In64 z1 ∧ In64 z2 ∧ In64 z3 ∧ In64 z4 ∧ z5 < 256 ∧ z6 < 256 ∧ z7 < 256 ∧ z8 < 256 ∧ z9 < 256 ∧ z10 < 256 ∧ z11 < 256 ∧ z12 < 256 ∧ z13 < 256 ∧ z14 < 256 ∧ z15 < 256 ∧ z16 < 256 ∧ In64 z17 ∧ In64 z18 := by
  have hrow : ∃ cs, v = .agg cs ∧ cs.size = Try.prog.cellsOf 34 ∧ Row.okWide Try.prog w r b0 34 cs := by
    simp only [Value.okWide, Try.underlying34] at hv
    exact hv
  obtain ⟨⟨l⟩, rfl, hsz, _⟩ := hrow
  obtain ⟨c0, c1, c2, c3, c4, c5, c6, c7, c8, c9, c10, c11, c12, c13, c14, c15, c16, c17, c18, rfl⟩ := row_of19 (hsz.trans Try.czsandglasslaw12Step)
  obtain ⟨fuel, hf⟩ := h
  obtain ⟨z0, z1, z2, z3, z4, z5, z6, z7, z8, z9, z10, z11, z12, z13, z14, z15, z16, z17, z18, rfl, rfl, rfl, rfl, rfl, rfl, rfl, rfl, rfl, rfl, rfl, rfl, rfl, rfl, rfl, rfl, rfl, rfl, rfl, b1, b2, b3, b4, b5, b6, b7, b8, b9, b10, b11, b12, b13, b14, b15, b16, b17, b18⟩ := rd_sandglasslaw12Step (by simpa [Value.cells] using hf)
  exact ⟨z0, z1, z2, z3, z4, z5, z6, z7, z8, z9, z10, z11, z12, z13, z14, z15, z16, z17, z18, rfl, b1, b2, b3, b4, b5, b6, b7, b8, b9, b10, b11, b12, b13, b14, b15, b16, b17, b18⟩
end
/-- The value's elements are these: m cells each. -/
def SlArg (m : Nat) (Ok : List Value → Prop) (w : World) (v : Value) (n : Nat) : Prop :=
  (n = 0 ∧ ∃ a c, v = .slice a 0 c ∧ (a = none → c = 0)) ∨ (0 < n ∧ ∃ b o c, ∃ F : Nat → List Value, v = .slice (some ⟨b, o, none⟩) n c ∧ n ≤ c ∧ b < w.heap.size ∧ ∀ k, k < n → Ok (F k) ∧ (F k).length = m ∧ ∀ j, j < m → w.cell? ⟨b, o + k * m + j, none⟩ = (F k)[j]?)
theorem SlArg.slice {m n : Nat} {Ok : List Value → Prop} {w : World} {v : Value} (h : SlArg m Ok w v n) : ∃ p c, v = .slice p n c := by
  rcases h with ⟨rfl, p, c, rfl, _⟩ | ⟨_, b, o, c, F, rfl, _⟩
  · exact ⟨p, c, rfl⟩
  · exact ⟨_, c, rfl⟩
theorem SlArg.at {m n c : Nat} {Ok : List Value → Prop} {w : World} {p : Option Addr} (h : SlArg m Ok w (.slice p n c) n) (h0 : 0 < n) : ∃ b o, ∃ F : Nat → List Value, p = some ⟨b, o, none⟩ ∧ b < w.heap.size ∧ ∀ k, k < n → Ok (F k) ∧ (F k).length = m ∧ ∀ j, j < m → w.cell? ⟨b, o + k * m + j, none⟩ = (F k)[j]? := by
  rcases h with ⟨e, _⟩ | ⟨_, b, o, c', F, e, _, h1, h2⟩
  · omega
  · injection e with e1 e2 e3
    exact ⟨b, o, F, e1, h1, h2⟩
theorem slice_same {m n n' c : Nat} {Ok : List Value → Prop} {w : World} {p : Option Addr} (h : SlArg m Ok w (.slice p n c) n') : n = n' := by
  obtain ⟨p', c', e⟩ := h.slice
  injection e
def OksieveStream (l : List Value) : Prop := ∃ (z0 : Int) (z1 : Int) (z2 : Nat) (z3 : Nat) (z4 : Nat) (z5 : Nat) (z6 : Nat) (z7 : Nat) (z8 : Bool) (z9 : Int) (z10 : Int) (z11 : Int) (z12 : Bool) (z13 : Int), l = [.int .i64 z0, .int .i64 z1, .int .u8 (z2 : Int), .int .u8 (z3 : Int), .int .u8 (z4 : Int), .int .u8 (z5 : Int), .int .u8 (z6 : Int), .int .u8 (z7 : Int), .bool z8, .int .i64 z9, .int .i64 z10, .int .i64 z11, .bool z12, .int .i64 z13] ∧ In64 z0 ∧ In64 z1 ∧ z2 < 256 ∧ z3 < 256 ∧ z4 < 256 ∧ z5 < 256 ∧ z6 < 256 ∧ z7 < 256 ∧ In64 z9 ∧ In64 z10 ∧ In64 z11 ∧ In64 z13
set_option maxRecDepth 100000 in
theorem opens_sieveStream {H : Type} {enc : TypeId × Value → H} {w : World} {base : Nat} {spare : Nat → Bool} {held : Bool} {a0 : Option Addr} {len cap : Nat} {d : DataW H} {p : List MemPlace}
    (h : DataW.Trod enc Try.prog w base spare held 22 (.slice a0 len cap) d p) : SlArg 14 OksieveStream w (.slice a0 len cap) len := by
  obtain ⟨fuel, hf⟩ := h
  rcases open_slice Try.underlying22 hf with ⟨hcs, _⟩ | ⟨a, len', cap', m, n, D, Pl, hcs, _, hl, _, hm, _, hi⟩
  · simp [Value.cells] at hcs
    obtain ⟨rfl, rfl, rfl⟩ := hcs
    exact .inl ⟨rfl, _, _, rfl, fun _ => rfl⟩
  · simp [Value.cells] at hcs
    obtain ⟨rfl, rfl, rfl⟩ := hcs
    rcases Nat.eq_zero_or_pos len with h0 | h0
    · subst h0
      exact .inl ⟨rfl, _, _, rfl, fun e => by cases e⟩
    have hlm : len ≤ m := by rw [hm]; split <;> omega
    have each : ∀ i, i < len → ∃ l : List Value, OksieveStream l ∧ l.length = 14 ∧ ∀ j, j < 14 → w.cell? ((a.add (i * 14)).add j) = l[j]? := by
      intro i hil
      obtain ⟨cs', hc, ht⟩ := hi i (by omega)
      rw [Try.czsieveStream] at hc
      obtain ⟨_, hcl, hat⟩ := World.cells?_some hc
      refine ⟨cs', ?_, hcl, hat⟩
      · clear hat
        obtain ⟨c0, c1, c2, c3, c4, c5, c6, c7, c8, c9, c10, c11, c12, c13, rfl⟩ := row_of14 hcl
        obtain ⟨z0, z1, z2, z3, z4, z5, z6, z7, z8, z9, z10, z11, z12, z13, rfl, rfl, rfl, rfl, rfl, rfl, rfl, rfl, rfl, rfl, rfl, rfl, rfl, rfl, b0, b1, b2, b3, b4, b5, b6, b7, b9, b10, b11, b13⟩ := rd_sieveStream ht
        exact ⟨z0, z1, z2, z3, z4, z5, z6, z7, z8, z9, z10, z11, z12, z13, rfl, b0, b1, b2, b3, b4, b5, b6, b7, b9, b10, b11, b13⟩
    obtain ⟨F, hF⟩ := choose_lt each
    obtain ⟨b, o, spot⟩ := a
    have hc0 := (hF 0 h0).2.2 0 (by omega)
    have hl0 := (hF 0 h0).2.1
    rw [List.getElem?_eq_getElem (by omega)] at hc0
    have hspot : spot = none := by
      have := World.cell?_spot hc0
      simpa [Addr.add] using this
    subst hspot
    refine .inr ⟨h0, b, o, cap, F, rfl, by omega, ?_, fun k hk => ⟨(hF k hk).1, (hF k hk).2.1, fun j hj => ?_⟩⟩
    · have := block_of_cell hc0
      simpa [block_add] using this
    · have h1 := (hF k hk).2.2 j hj
      rw [add_flat, add_flat] at h1
      exact h1
def Oksandglasslaw12Step (l : List Value) : Prop := ∃ (z0 : Bool) (z1 : Int) (z2 : Int) (z3 : Int) (z4 : Int) (z5 : Nat) (z6 : Nat) (z7 : Nat) (z8 : Nat) (z9 : Nat) (z10 : Nat) (z11 : Nat) (z12 : Nat) (z13 : Nat) (z14 : Nat) (z15 : Nat) (z16 : Nat) (z17 : Int) (z18 : Int), l = [.bool z0, .int .i64 z1, .int .i64 z2, .int .i64 z3, .int .i64 z4, .int .u8 (z5 : Int), .int .u8 (z6 : Int), .int .u8 (z7 : Int), .int .u8 (z8 : Int), .int .u8 (z9 : Int), .int .u8 (z10 : Int), .int .u8 (z11 : Int), .int .u8 (z12 : Int), .int .u8 (z13 : Int), .int .u8 (z14 : Int), .int .u8 (z15 : Int), .int .u8 (z16 : Int), .int .i64 z17, .int .i64 z18] ∧ In64 z1 ∧ In64 z2 ∧ In64 z3 ∧ In64 z4 ∧ z5 < 256 ∧ z6 < 256 ∧ z7 < 256 ∧ z8 < 256 ∧ z9 < 256 ∧ z10 < 256 ∧ z11 < 256 ∧ z12 < 256 ∧ z13 < 256 ∧ z14 < 256 ∧ z15 < 256 ∧ z16 < 256 ∧ In64 z17 ∧ In64 z18
set_option maxRecDepth 100000 in
theorem opens_sandglasslaw12Step {H : Type} {enc : TypeId × Value → H} {w : World} {base : Nat} {spare : Nat → Bool} {held : Bool} {a0 : Option Addr} {len cap : Nat} {d : DataW H} {p : List MemPlace}
    (h : DataW.Trod enc Try.prog w base spare held 23 (.slice a0 len cap) d p) : SlArg 19 Oksandglasslaw12Step w (.slice a0 len cap) len := by
  obtain ⟨fuel, hf⟩ := h
  rcases open_slice Try.underlying23 hf with ⟨hcs, _⟩ | ⟨a, len', cap', m, n, D, Pl, hcs, _, hl, _, hm, _, hi⟩
  · simp [Value.cells] at hcs
    obtain ⟨rfl, rfl, rfl⟩ := hcs
    exact .inl ⟨rfl, _, _, rfl, fun _ => rfl⟩
  · simp [Value.cells] at hcs
    obtain ⟨rfl, rfl, rfl⟩ := hcs
    rcases Nat.eq_zero_or_pos len with h0 | h0
    · subst h0
      exact .inl ⟨rfl, _, _, rfl, fun e => by cases e⟩
    have hlm : len ≤ m := by rw [hm]; split <;> omega
    have each : ∀ i, i < len → ∃ l : List Value, Oksandglasslaw12Step l ∧ l.length = 19 ∧ ∀ j, j < 19 → w.cell? ((a.add (i * 19)).add j) = l[j]? := by
      intro i hil
      obtain ⟨cs', hc, ht⟩ := hi i (by omega)
      rw [Try.czsandglasslaw12Step] at hc
      obtain ⟨_, hcl, hat⟩ := World.cells?_some hc
      refine ⟨cs', ?_, hcl, hat⟩
      · clear hat
        obtain ⟨c0, c1, c2, c3, c4, c5, c6, c7, c8, c9, c10, c11, c12, c13, c14, c15, c16, c17, c18, rfl⟩ := row_of19 hcl
        obtain ⟨z0, z1, z2, z3, z4, z5, z6, z7, z8, z9, z10, z11, z12, z13, z14, z15, z16, z17, z18, rfl, rfl, rfl, rfl, rfl, rfl, rfl, rfl, rfl, rfl, rfl, rfl, rfl, rfl, rfl, rfl, rfl, rfl, rfl, b1, b2, b3, b4, b5, b6, b7, b8, b9, b10, b11, b12, b13, b14, b15, b16, b17, b18⟩ := rd_sandglasslaw12Step ht
        exact ⟨z0, z1, z2, z3, z4, z5, z6, z7, z8, z9, z10, z11, z12, z13, z14, z15, z16, z17, z18, rfl, b1, b2, b3, b4, b5, b6, b7, b8, b9, b10, b11, b12, b13, b14, b15, b16, b17, b18⟩
    obtain ⟨F, hF⟩ := choose_lt each
    obtain ⟨b, o, spot⟩ := a
    have hc0 := (hF 0 h0).2.2 0 (by omega)
    have hl0 := (hF 0 h0).2.1
    rw [List.getElem?_eq_getElem (by omega)] at hc0
    have hspot : spot = none := by
      have := World.cell?_spot hc0
      simpa [Addr.add] using this
    subst hspot
    refine .inr ⟨h0, b, o, cap, F, rfl, by omega, ?_, fun k hk => ⟨(hF k hk).1, (hF k hk).2.1, fun j hj => ?_⟩⟩
    · have := block_of_cell hc0
      simpa [block_add] using this
    · have h1 := (hF k hk).2.2 j hj
      rw [add_flat, add_flat] at h1
      exact h1

end Go.Proofs.Ytpdfgdjomlogbab
