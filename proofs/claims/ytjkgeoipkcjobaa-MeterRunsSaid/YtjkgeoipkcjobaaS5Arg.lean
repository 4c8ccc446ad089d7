/- Arguments that are structs, or slices of them: what is read of them. -/
import Derived.Test.YtjkgeoipkcjobaaMtMem
import Derived.Test.YtjkgeoipkcjobaaPost
import Derived.Deep.Slices
import Derived.Deep.Fields
namespace Go.Proofs.Ytjkgeoipkcjobaa
open Go.RowKit Go.WideShapes Go.ChangeShapes Go.ChangeAt Go.Joins Go.Deep

/-- An int that fits. -/
def In64 (x : Int) : Prop := -9223372036854775808 ≤ x ∧ x < 9223372036854775808
theorem Try.laidOut : laidOutB Try.prog = true := by kernel_rfl
theorem block_of_cell {w : World} {a : Addr} {v : Value} (h : w.cell? a = some v) : a.block < w.heap.size := World.block_lt_of_cell? _ _ h
theorem add_flat (b o i : Nat) : (⟨b, o, none⟩ : Addr).add i = ⟨b, o + i, none⟩ := by unfold Addr.add; split <;> simp_all
theorem nat_of_u8 {n : Int} (h : (Lit.int .u8 n).wf = true) : ∃ x : Nat, n = (x : Int) ∧ x < 256 := by
  have := bounds_u8 h
  exact ⟨n.toNat, by omega, by omega⟩
theorem in_of_wf {n : Int} (h : (Lit.int .i64 n).wf = true) : In64 n := by
  have := bounds_i64 h
  exact ⟨by omega, by omega⟩
theorem Try.czint : Try.prog.cellsOf 3 = 1 := by kernel_rfl
theorem Try.czbool : Try.prog.cellsOf 4 = 1 := by kernel_rfl
theorem Try.czmeterConf : Try.prog.cellsOf 23 = 7 := by kernel_rfl
theorem Try.czsandglasslaw10Step : Try.prog.cellsOf 42 = 3 := by kernel_rfl

section
variable {H : Type} {enc : TypeId × Value → H} {w : World} {base : Nat} {spare : Nat → Bool} {held : Bool}
set_option maxHeartbeats 1000000 in
theorem rd_meterConf {n : Nat} {c0 c1 c2 c3 c4 c5 c6 : Value} {x : DataW H × List MemPlace} (h : DataW.trod enc Try.prog w base spare held n 23 [c0, c1, c2, c3, c4, c5, c6] = some x) :
    ∃ (z0 : Int) (z1 : Int) (z2 : Int) (z3 : Int) (z4 : Bool) (z5 : Bool) (z6 : Bool), c0 = .int .i64 z0 ∧ c1 = .int .i64 z1 ∧ c2 = .int .i64 z2 ∧ c3 = .int .i64 z3 ∧ c4 = .bool z4 ∧ c5 = .bool z5 ∧ c6 = .bool z6 ∧ In64 z0 ∧ In64 z1 ∧ In64 z2 ∧ In64 z3 := by
  obtain ⟨xs, m, _, _, _, hl, hall⟩ := DataW.trod_struct Try.underlying23 h
  have hx : ∀ i, i < 7 → ∃ y, xs[i]? = some y := fun i hi => ⟨xs[i]'(by rw [hl]; exact hi), List.getElem?_eq_getElem _⟩
  obtain ⟨y0, hy0⟩ := hx 0 (by omega)
  have t0 := hall 0 _ rfl
  rw [hy0] at t0
  have u0 : DataW.trod enc Try.prog w base spare held m 3 [c0] = some y0 := by
    have e : DataW.trod enc Try.prog w base spare held m 3 ((List.drop 0 [c0, c1, c2, c3, c4, c5, c6]).take (Try.prog.cellsOf 3)) = some y0 := t0
    rw [Try.czint] at e
    exact e
  clear t0
  obtain ⟨z0, g0, _, w0⟩ := DataW.trod_int Try.underlying3 u0
  injection g0 with g0
  obtain ⟨y1, hy1⟩ := hx 1 (by omega)
  have t1 := hall 1 _ rfl
  rw [hy1] at t1
  have u1 : DataW.trod enc Try.prog w base spare held m 3 [c1] = some y1 := by
    have e : DataW.trod enc Try.prog w base spare held m 3 ((List.drop 1 [c0, c1, c2, c3, c4, c5, c6]).take (Try.prog.cellsOf 3)) = some y1 := t1
    rw [Try.czint] at e
    exact e
  clear t1
  obtain ⟨z1, g1, _, w1⟩ := DataW.trod_int Try.underlying3 u1
  injection g1 with g1
  obtain ⟨y2, hy2⟩ := hx 2 (by omega)
  have t2 := hall 2 _ rfl
  rw [hy2] at t2
  have u2 : DataW.trod enc Try.prog w base spare held m 3 [c2] = some y2 := by
    have e : DataW.trod enc Try.prog w base spare held m 3 ((List.drop 2 [c0, c1, c2, c3, c4, c5, c6]).take (Try.prog.cellsOf 3)) = some y2 := t2
    rw [Try.czint] at e
    exact e
  clear t2
  obtain ⟨z2, g2, _, w2⟩ := DataW.trod_int Try.underlying3 u2
  injection g2 with g2
  obtain ⟨y3, hy3⟩ := hx 3 (by omega)
  have t3 := hall 3 _ rfl
  rw [hy3] at t3
  have u3 : DataW.trod enc Try.prog w base spare held m 3 [c3] = some y3 := by
    have e : DataW.trod enc Try.prog w base spare held m 3 ((List.drop 3 [c0, c1, c2, c3, c4, c5, c6]).take (Try.prog.cellsOf 3)) = some y3 := t3
    rw [Try.czint] at e
    exact e
  clear t3
  obtain ⟨z3, g3, _, w3⟩ := DataW.trod_int Try.underlying3 u3
  injection g3 with g3
  obtain ⟨y4, hy4⟩ := hx 4 (by omega)
  have t4 := hall 4 _ rfl
  rw [hy4] at t4
  have u4 : DataW.trod enc Try.prog w base spare held m 4 [c4] = some y4 := by
    have e : DataW.trod enc Try.prog w base spare held m 4 ((List.drop 4 [c0, c1, c2, c3, c4, c5, c6]).take (Try.prog.cellsOf 4)) = some y4 := t4
    rw [Try.czbool] at e
    exact e
  clear t4
  obtain ⟨z4, g4, _⟩ := DataW.trod_bool Try.underlying4 u4
  injection g4 with g4
  obtain ⟨y5, hy5⟩ := hx 5 (by omega)
  have t5 := hall 5 _ rfl
  rw [hy5] at t5
  have u5 : DataW.trod enc Try.prog w base spare held m 4 [c5] = some y5 := by
    have e : DataW.trod enc Try.prog w base spare held m 4 ((List.drop 5 [c0, c1, c2, c3, c4, c5, c6]).take (Try.prog.cellsOf 4)) = some y5 := t5
    rw [Try.czbool] at e
    exact e
  clear t5
  obtain ⟨z5, g5, _⟩ := DataW.trod_bool Try.underlying4 u5
  injection g5 with g5
  obtain ⟨y6, hy6⟩ := hx 6 (by omega)
  have t6 := hall 6 _ rfl
  rw [hy6] at t6
  have u6 : DataW.trod enc Try.prog w base spare held m 4 [c6] = some y6 := by
    have e : DataW.trod enc Try.prog w base spare held m 4 ((List.drop 6 [c0, c1, c2, c3, c4, c5, c6]).take (Try.prog.cellsOf 4)) = some y6 := t6
    rw [Try.czbool] at e
    exact e
  clear t6
  obtain ⟨z6, g6, _⟩ := DataW.trod_bool Try.underlying4 u6
  injection g6 with g6
  exact ⟨z0, z1, z2, z3, z4, z5, z6, g0, g1, g2, g3, g4, g5, g6, in_of_wf w0, in_of_wf w1, in_of_wf w2, in_of_wf w3⟩
set_option maxHeartbeats 1000000 in
theorem rd_sandglasslaw10Step {n : Nat} {c0 c1 c2 : Value} {x : DataW H × List MemPlace} (h : DataW.trod enc Try.prog w base spare held n 42 [c0, c1, c2] = some x) :
    ∃ (z0 : Int) (z1 : Int) (z2 : Bool), c0 = .int .i64 z0 ∧ c1 = .int .i64 z1 ∧ c2 = .bool z2 ∧ In64 z0 ∧ In64 z1 := by
  obtain ⟨xs, m, _, _, _, hl, hall⟩ := DataW.trod_struct Try.underlying42 h
  have hx : ∀ i, i < 3 → ∃ y, xs[i]? = some y := fun i hi => ⟨xs[i]'(by rw [hl]; exact hi), List.getElem?_eq_getElem _⟩
  obtain ⟨y0, hy0⟩ := hx 0 (by omega)
  have t0 := hall 0 _ rfl
  rw [hy0] at t0
  have u0 : DataW.trod enc Try.prog w base spare held m 3 [c0] = some y0 := by
    have e : DataW.trod enc Try.prog w base spare held m 3 ((List.drop 0 [c0, c1, c2]).take (Try.prog.cellsOf 3)) = some y0 := t0
    rw [Try.czint] at e
    exact e
  clear t0
  obtain ⟨z0, g0, _, w0⟩ := DataW.trod_int Try.underlying3 u0
  injection g0 with g0
  obtain ⟨y1, hy1⟩ := hx 1 (by omega)
  have t1 := hall 1 _ rfl
  rw [hy1] at t1
  have u1 : DataW.trod enc Try.prog w base spare held m 3 [c1] = some y1 := by
    have e : DataW.trod enc Try.prog w base spare held m 3 ((List.drop 1 [c0, c1, c2]).take (Try.prog.cellsOf 3)) = some y1 := t1
    rw [Try.czint] at e
    exact e
  clear t1
  obtain ⟨z1, g1, _, w1⟩ := DataW.trod_int Try.underlying3 u1
  injection g1 with g1
  obtain ⟨y2, hy2⟩ := hx 2 (by omega)
  have t2 := hall 2 _ rfl
  rw [hy2] at t2
  have u2 : DataW.trod enc Try.prog w base spare held m 4 [c2] = some y2 := by
    have e : DataW.trod enc Try.prog w base spare held m 4 ((List.drop 2 [c0, c1, c2]).take (Try.prog.cellsOf 4)) = some y2 := t2
    rw [Try.czbool] at e
    exact e
  clear t2
  obtain ⟨z2, g2, _⟩ := DataW.trod_bool Try.underlying4 u2
  injection g2 with g2
  exact ⟨z0, z1, z2, g0, g1, g2, in_of_wf w0, in_of_wf w1⟩
end
theorem row_of3 {l : List Value} (h : l.length = 3) : ∃ c0 c1 c2, l = [c0, c1, c2] := by
  match l, h with
  | [c0, c1, c2], _ => exact ⟨c0, c1, c2, rfl⟩
theorem row_of7 {l : List Value} (h : l.length = 7) : ∃ c0 c1 c2 c3 c4 c5 c6, l = [c0, c1, c2, c3, c4, c5, c6] := by
  match l, h with
  | [c0, c1, c2, c3, c4, c5, c6], _ => exact ⟨c0, c1, c2, c3, c4, c5, c6, rfl⟩
section
variable {H : Type} {enc : TypeId × Value → H} {w : World} {base : Nat} {spare : Nat → Bool} {held : Bool}
theorem open_meterConf {r : Reach} {b0 : Nat} {v : Value} {d : DataW H} {p : List MemPlace} (hv : Value.okWide Try.prog w r b0 23 v) (h : DataW.Trod enc Try.prog w base spare held 23 v d p) :
    ∃ (z0 : Int) (z1 : Int) (z2 : Int) (z3 : Int) (z4 : Bool) (z5 : Bool) (z6 : Bool), v = .agg #[.int .i64 z0, .int .i64 z1, .int .i64 z2, .int .i64 z3, .bool z4, .bool z5, .bool z6] ∧ In64 z0 ∧ In64 z1 ∧ In64 z2 ∧ In64 z3 := by
  have hrow : ∃ cs, v = .agg cs ∧ cs.size = Try.prog.cellsOf 23 ∧ Row.okWide Try.prog w r b0 23 cs := by
    simp only [Value.okWide, Try.underlying23] at hv
    exact hv
  obtain ⟨⟨l⟩, rfl, hsz, _⟩ := hrow
  obtain ⟨c0, c1, c2, c3, c4, c5, c6, rfl⟩ := row_of7 (hsz.trans Try.czmeterConf)
  obtain ⟨fuel, hf⟩ := h
  obtain ⟨z0, z1, z2, z3, z4, z5, z6, rfl, rfl, rfl, rfl, rfl, rfl, rfl, b0, b1, b2, b3⟩ := rd_meterConf (by simpa [Value.cells] using hf)
  exact ⟨z0, z1, z2, z3, z4, z5, z6, rfl, b0, b1, b2, b3⟩
end
/-- The value's elements are these: m cells each. -/
def SlArg (m : Nat) (Ok : List Value → Prop) (w : World) (v : Value) (n : Nat) : Prop :=
  (n = 0 ∧ ∃ a c, v = .slice a 0 c) ∨ (0 < n ∧ ∃ b o c, ∃ F : Nat → List Value, v = .slice (some ⟨b, o, none⟩) n c ∧ b < w.heap.size ∧ ∀ k, k < n → Ok (F k) ∧ (F k).length = m ∧ ∀ j, j < m → w.cell? ⟨b, o + k * m + j, none⟩ = (F k)[j]?)
theorem SlArg.slice {m n : Nat} {Ok : List Value → Prop} {w : World} {v : Value} (h : SlArg m Ok w v n) : ∃ p c, v = .slice p n c := by
  rcases h with ⟨rfl, p, c, rfl⟩ | ⟨_, b, o, c, F, rfl, _⟩
  · exact ⟨p, c, rfl⟩
  · exact ⟨_, c, rfl⟩
theorem SlArg.at {m n c : Nat} {Ok : List Value → Prop} {w : World} {p : Option Addr} (h : SlArg m Ok w (.slice p n c) n) (h0 : 0 < n) : ∃ b o, ∃ F : Nat → List Value, p = some ⟨b, o, none⟩ ∧ b < w.heap.size ∧ ∀ k, k < n → Ok (F k) ∧ (F k).length = m ∧ ∀ j, j < m → w.cell? ⟨b, o + k * m + j, none⟩ = (F k)[j]? := by
  rcases h with ⟨e, _⟩ | ⟨_, b, o, c', F, e, h1, h2⟩
  · omega
  · injection e with e1 e2 e3
    exact ⟨b, o, F, e1, h1, h2⟩
theorem slice_same {m n n' c : Nat} {Ok : List Value → Prop} {w : World} {p : Option Addr} (h : SlArg m Ok w (.slice p n c) n') : n = n' := by
  obtain ⟨p', c', e⟩ := h.slice
  injection e
def Oksandglasslaw10Step (l : List Value) : Prop := ∃ (z0 : Int) (z1 : Int) (z2 : Bool), l = [.int .i64 z0, .int .i64 z1, .bool z2] ∧ In64 z0 ∧ In64 z1
set_option maxRecDepth 100000 in
theorem opens_sandglasslaw10Step {H : Type} {enc : TypeId × Value → H} {w : World} {base : Nat} {spare : Nat → Bool} {held : Bool} {a0 : Option Addr} {len cap : Nat} {d : DataW H} {p : List MemPlace}
    (h : DataW.Trod enc Try.prog w base spare held 24 (.slice a0 len cap) d p) : SlArg 3 Oksandglasslaw10Step w (.slice a0 len cap) len := by
  obtain ⟨fuel, hf⟩ := h
  rcases open_slice Try.underlying24 hf with ⟨hcs, _⟩ | ⟨a, len', cap', m, n, D, Pl, hcs, _, hl, _, hm, _, hi⟩
  · simp [Value.cells] at hcs
    obtain ⟨rfl, rfl, rfl⟩ := hcs
    exact .inl ⟨rfl, _, _, rfl⟩
  · simp [Value.cells] at hcs
    obtain ⟨rfl, rfl, rfl⟩ := hcs
    rcases Nat.eq_zero_or_pos len with h0 | h0
    · subst h0
      exact .inl ⟨rfl, _, _, rfl⟩
    have hlm : len ≤ m := by rw [hm]; split <;> omega
    have each : ∀ i, i < len → ∃ l : List Value, Oksandglasslaw10Step l ∧ l.length = 3 ∧ ∀ j, j < 3 → w.cell? ((a.add (i * 3)).add j) = l[j]? := by
      intro i hil
      obtain ⟨cs', hc, ht⟩ := hi i (by omega)
      rw [Try.czsandglasslaw10Step] at hc
      obtain ⟨_, hcl, hat⟩ := World.cells?_some hc
      refine ⟨cs', ?_, hcl, hat⟩
      · clear hat
        obtain ⟨c0, c1, c2, rfl⟩ := row_of3 hcl
        obtain ⟨z0, z1, z2, rfl, rfl, rfl, b0, b1⟩ := rd_sandglasslaw10Step ht
        exact ⟨z0, z1, z2, rfl, b0, b1⟩
    obtain ⟨F, hF⟩ := choose_lt each
    obtain ⟨b, o, spot⟩ := a
    have hc0 := (hF 0 h0).2.2 0 (by omega)
    have hl0 := (hF 0 h0).2.1
    rw [List.getElem?_eq_getElem (by omega)] at hc0
    have hspot : spot = none := by
      have := World.cell?_spot hc0
      simpa [Addr.add] using this
    subst hspot
    refine .inr ⟨h0, b, o, cap, F, rfl, ?_, fun k hk => ⟨(hF k hk).1, (hF k hk).2.1, fun j hj => ?_⟩⟩
    · have := block_of_cell hc0
      simpa [block_add] using this
    · have h1 := (hF k hk).2.2 j hj
      rw [add_flat, add_flat] at h1
      exact h1

end Go.Proofs.Ytjkgeoipkcjobaa
