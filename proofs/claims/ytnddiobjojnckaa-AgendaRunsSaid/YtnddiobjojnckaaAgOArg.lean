/- An argument that is a slice of operations: what is read of it. -/
import Derived.Test.YtnddiobjojnckaaAgArg
import Derived.Deep.Slices
import Derived.Deep.Fields
namespace Go.Proofs.Ytnddiobjojnckaa
open Go.RowKit Go.WideShapes Go.ChangeShapes Go.ChangeAt Go.Joins Go.Deep

theorem Try.cellsOp : Try.prog.cellsOf 28 = 4 := by kernel_rfl
theorem add_flat4 (b o i : Nat) : (⟨b, o, none⟩ : Addr).add i = ⟨b, o + i, none⟩ := by unfold Addr.add; split <;> simp_all
theorem four_of {l : List Value} (h : l.length = 4) : ∃ a b c d, l = [a, b, c, d] := by
  match l, h with
  | [a, b, c, d], _ => exact ⟨a, b, c, d, rfl⟩
abbrev Ope := Int × Int × Int × Int
def oK (os : List Ope) (i : Nat) : Int := (os.getD i (0, 0, 0, 0)).1
def oA (os : List Ope) (i : Nat) : Int := (os.getD i (0, 0, 0, 0)).2.1
def oB (os : List Ope) (i : Nat) : Int := (os.getD i (0, 0, 0, 0)).2.2.1
def oC (os : List Ope) (i : Nat) : Int := (os.getD i (0, 0, 0, 0)).2.2.2
def RdO (w : World) (b o : Nat) (os : List Ope) : Prop :=
  b < w.heap.size ∧ ∀ k, k < os.length → w.cell? ⟨b, o + k * 4, none⟩ = some (.int .i64 (oK os k)) ∧ w.cell? ⟨b, o + k * 4 + 1, none⟩ = some (.int .i64 (oA os k)) ∧ w.cell? ⟨b, o + k * 4 + 2, none⟩ = some (.int .i64 (oB os k)) ∧ w.cell? ⟨b, o + k * 4 + 3, none⟩ = some (.int .i64 (oC os k))
/-- The value's elements are these operations. -/
def OArg (w : World) (v : Value) (os : List Ope) : Prop :=
  (∀ k, k < os.length → In64 (oK os k) ∧ In64 (oA os k) ∧ In64 (oB os k)) ∧ ((os = [] ∧ ∃ a c, v = .slice a 0 c) ∨ (0 < os.length ∧ ∃ b o c, v = .slice (some ⟨b, o, none⟩) os.length c ∧ RdO w b o os))
section
variable {w w' : World} {b o : Nat} {v : Value} {os : List Ope}
theorem RdO.below (h : RdO w b o os) (hb : Below w.heap.size w w') : RdO w' b o os :=
  ⟨Nat.lt_of_lt_of_le h.1 hb.size, fun k hk => ⟨(hb.cell h.1).trans (h.2 k hk).1, (hb.cell h.1).trans (h.2 k hk).2.1, (hb.cell h.1).trans (h.2 k hk).2.2.1, (hb.cell h.1).trans (h.2 k hk).2.2.2⟩⟩
theorem OArg.slice (h : OArg w v os) : ∃ p c, v = .slice p os.length c := by
  rcases h.2 with ⟨rfl, p, c, rfl⟩ | ⟨_, b, o, c, rfl, _⟩
  · exact ⟨p, c, rfl⟩
  · exact ⟨_, c, rfl⟩
theorem OArg.at {p : Option Addr} {n c : Nat} (h : OArg w (.slice p n c) os) (hn : os.length = n) (h0 : 0 < n) : ∃ b o, p = some ⟨b, o, none⟩ ∧ RdO w b o os := by
  rcases h.2 with ⟨e, _⟩ | ⟨_, b, o, c', e, hr⟩
  · rw [e] at hn; simp at hn; omega
  · injection e with e1 e2 e3
    exact ⟨b, o, e1, hr⟩
end

set_option maxRecDepth 100000 in
theorem open_ops {H : Type} {enc : TypeId × Value → H} {w : World} {base : Nat} {spare : Nat → Bool} {held : Bool} {a0 : Option Addr} {len cap : Nat} {d : DataW H} {p : List MemPlace}
    (h : DataW.Trod enc Try.prog w base spare held 22 (.slice a0 len cap) d p) : ∃ os, OArg w (.slice a0 len cap) os := by
  obtain ⟨fuel, hf⟩ := h
  rcases open_slice Try.underlying22 hf with ⟨hcs, _⟩ | ⟨a, len', cap', m, n, D, Pl, hcs, _, hl, _, hm, _, hi⟩
  · simp [Value.cells] at hcs
    obtain ⟨rfl, rfl, rfl⟩ := hcs
    exact ⟨[], fun k hk => by simp at hk, .inl ⟨rfl, _, _, rfl⟩⟩
  · simp [Value.cells] at hcs
    obtain ⟨rfl, rfl, rfl⟩ := hcs
    rcases Nat.eq_zero_or_pos len with h0 | h0
    · subst h0
      exact ⟨[], fun k hk => by simp at hk, .inl ⟨rfl, _, _, rfl⟩⟩
    have hlm : len ≤ m := by rw [hm]; split <;> omega
    have each : ∀ i, i < len → ∃ xy : Ope, (In64 xy.1 ∧ In64 xy.2.1 ∧ In64 xy.2.2.1) ∧ w.cell? ((a.add (i * 4)).add 0) = some (.int .i64 xy.1) ∧ w.cell? ((a.add (i * 4)).add 1) = some (.int .i64 xy.2.1) ∧ w.cell? ((a.add (i * 4)).add 2) = some (.int .i64 xy.2.2.1) ∧ w.cell? ((a.add (i * 4)).add 3) = some (.int .i64 xy.2.2.2) := by
      intro i hil
      obtain ⟨cs', hc, ht⟩ := hi i (by omega)
      rw [Try.cellsOp] at hc
      obtain ⟨_, hcl, hat⟩ := World.cells?_some hc
      obtain ⟨ys, n', _, _, _, _, hg⟩ := DataW.trod_struct Try.underlying28 ht
      have g0 := hg 0 _ rfl
      have g1 := hg 1 _ rfl
      have g2 := hg 2 _ rfl
      have g3 := hg 3 _ rfl
      obtain ⟨c0, c1, c2, c3, rfl⟩ := four_of hcl
      have e0 : ∃ x, DataW.trod enc Try.prog w base spare held n' 3 [c0] = some x := by
        have hlen : ys.length = 4 := by assumption
        refine ⟨ys[0]'(by omega), ?_⟩
        rw [← List.getElem?_eq_getElem (by omega)]
        simpa [Try.cellsL] using g0
      have e1 : ∃ x, DataW.trod enc Try.prog w base spare held n' 3 [c1] = some x := by
        have hlen : ys.length = 4 := by assumption
        refine ⟨ys[1]'(by omega), ?_⟩
        rw [← List.getElem?_eq_getElem (by omega)]
        simpa [Try.cellsL] using g1
      have e2 : ∃ x, DataW.trod enc Try.prog w base spare held n' 3 [c2] = some x := by
        have hlen : ys.length = 4 := by assumption
        refine ⟨ys[2]'(by omega), ?_⟩
        rw [← List.getElem?_eq_getElem (by omega)]
        simpa [Try.cellsL] using g2
      have e3 : ∃ x, DataW.trod enc Try.prog w base spare held n' 3 [c3] = some x := by
        have hlen : ys.length = 4 := by assumption
        refine ⟨ys[3]'(by omega), ?_⟩
        rw [← List.getElem?_eq_getElem (by omega)]
        simpa [Try.cellsL] using g3
      obtain ⟨x0, e0⟩ := e0
      obtain ⟨x1, e1⟩ := e1
      obtain ⟨x2, e2⟩ := e2
      obtain ⟨x3, e3⟩ := e3
      obtain ⟨z0, hz0, _, w0⟩ := DataW.trod_int Try.underlying3 e0
      have b0 := bounds_i64 w0
      obtain ⟨z1, hz1, _, w1⟩ := DataW.trod_int Try.underlying3 e1
      have b1 := bounds_i64 w1
      obtain ⟨z2, hz2, _, w2⟩ := DataW.trod_int Try.underlying3 e2
      have b2 := bounds_i64 w2
      obtain ⟨z3, hz3, _, w3⟩ := DataW.trod_int Try.underlying3 e3
      have b3 := bounds_i64 w3
      simp at hz0 hz1 hz2 hz3
      subst hz0 hz1 hz2 hz3
      exact ⟨(z0, z1, z2, z3), ⟨⟨b0.1, by show z0 < _; omega⟩, ⟨b1.1, by show z1 < _; omega⟩, ⟨b2.1, by show z2 < _; omega⟩⟩, hat 0 (by omega), hat 1 (by omega), hat 2 (by omega), hat 3 (by omega)⟩
    obtain ⟨F, hF⟩ := choose_lt each
    obtain ⟨b, o, spot⟩ := a
    have hspot : spot = none := by
      have := World.cell?_spot (hF 0 h0).2.1
      simpa [Addr.add] using this
    subst hspot
    have hlen : ((List.range len).map F).length = len := by simp
    have hk0 : ∀ k, k < len → oK ((List.range len).map F) k = (F k).1 := fun k hk => by unfold oK; simp [List.getD_eq_getElem?_getD, hk]
    have hk1 : ∀ k, k < len → oA ((List.range len).map F) k = (F k).2.1 := fun k hk => by unfold oA; simp [List.getD_eq_getElem?_getD, hk]
    have hk2 : ∀ k, k < len → oB ((List.range len).map F) k = (F k).2.2.1 := fun k hk => by unfold oB; simp [List.getD_eq_getElem?_getD, hk]
    have hk3 : ∀ k, k < len → oC ((List.range len).map F) k = (F k).2.2.2 := fun k hk => by unfold oC; simp [List.getD_eq_getElem?_getD, hk]
    refine ⟨(List.range len).map F, fun k hk => ?_, .inr ⟨by omega, b, o, cap, by rw [hlen], ?_, fun k hk => ?_⟩⟩
    · rw [hlen] at hk
      rw [hk0 k hk, hk1 k hk, hk2 k hk]
      exact (hF k hk).1
    · have := block_of_cell (hF 0 h0).2.1
      simpa [block_add] using this
    · rw [hlen] at hk
      rw [hk0 k hk, hk1 k hk, hk2 k hk, hk3 k hk]
      have h1 := (hF k hk).2.1
      have h2 := (hF k hk).2.2.1
      have h3 := (hF k hk).2.2.2.1
      have h4 := (hF k hk).2.2.2.2
      rw [add_flat4, add_flat4] at h1 h2 h3 h4
      exact ⟨h1, h2, h3, h4⟩

end Go.Proofs.Ytnddiobjojnckaa
