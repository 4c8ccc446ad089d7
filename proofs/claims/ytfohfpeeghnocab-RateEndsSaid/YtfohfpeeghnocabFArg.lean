/- An argument that is a slice of floats: what is read of it. -/
import Derived.Test.YtfohfpeeghnocabPost
import Derived.WalkLawsBesides
namespace Go.Proofs.Ytfohfpeeghnocab
open Go.RowKit Go.WideShapes Go.ChangeShapes Go.ChangeAt Go.Joins

/-- The value's elements are floats of these bits. -/
def FArg (w : World) (v : Value) (xs : List Nat) : Prop :=
  (∀ x ∈ xs, x < 18446744073709551616) ∧
  ((xs = [] ∧ ∃ a c, v = .slice a 0 c) ∨
   (0 < xs.length ∧ ∃ b o c, v = .slice (some ⟨b, o, none⟩) xs.length c ∧ xs.length ≤ c ∧ b < w.heap.size ∧ ∀ k, k < xs.length → w.cell? ⟨b, o + k, none⟩ = some (.float .f64 (xs.getD k 0))))

theorem FArg.below {w w' : World} {v : Value} {xs : List Nat} (h : FArg w v xs) (hb : Below w.heap.size w w') : FArg w' v xs := by
  obtain ⟨h1, h2⟩ := h
  refine ⟨h1, ?_⟩
  rcases h2 with h2 | ⟨h3, b, o, c, e, hc, hl, hr⟩
  · exact .inl h2
  · exact .inr ⟨h3, b, o, c, e, hc, Nat.lt_of_lt_of_le hl hb.size, fun k hk => (hb.cell hl).trans (hr k hk)⟩

theorem block_of_cell {w : World} {a : Addr} {v : Value} (h : w.cell? a = some v) : a.block < w.heap.size := by
  refine Nat.lt_of_not_le fun hh => ?_
  have e : w.heap[a.block]? = none := by simp; omega
  simp [World.cell?, e] at h

section
variable {H : Type} {enc : TypeId × Value → H} {P : Program} {w : World} {base : Nat} {spare : Nat → Bool} {held : Bool}
theorem trod_float {k : FloatKind} {t : TypeId} {fuel : Nat} {cs : List Value} {x : DataW H × List MemPlace} (ht : P.underlying t = some (.float k)) (h : DataW.trod enc P w base spare held fuel t cs = some x) :
    ∃ n, cs = [.float k n] ∧ (Lit.float k n).wf = true := by
  cases fuel with
  | zero => simp [DataW.trod] at h
  | succ n =>
    unfold DataW.trod at h
    rw [ht] at h
    split at h <;> simp_all

theorem open_floats {t e : TypeId} {a0 : Option Addr} {len cap : Nat} {d : DataW H} {p : List MemPlace} (ht : P.underlying t = some (.slice e)) (he : P.underlying e = some (.float .f64)) (hc : P.cellsOf e = 1)
    (h : DataW.Trod enc P w base spare held t (.slice a0 len cap) d p) : ∃ xs, FArg w (.slice a0 len cap) xs := by
  obtain ⟨fuel, hf⟩ := h
  rcases DataW.trod_slice ht hf with ⟨hcs, _⟩ | ⟨a, len', cap', elems, rest, n, _, hcs, _, hb, hl, hm, hlen, hel, _, _⟩
  · simp [Value.cells] at hcs
    obtain ⟨rfl, rfl, rfl⟩ := hcs
    exact ⟨[], by simp, .inl ⟨rfl, _, _, rfl⟩⟩
  · simp [Value.cells] at hcs
    obtain ⟨rfl, rfl, rfl⟩ := hcs
    rcases Nat.eq_zero_or_pos len with h0 | h0
    · subst h0
      exact ⟨[], by simp, .inl ⟨rfl, _, _, rfl⟩⟩
    have each : ∀ i, i < len → ∃ x : Nat, w.cell? (a.add i) = some (.float .f64 x) ∧ x < 18446744073709551616 := by
      intro i hi
      have h1 := hel i hi
      rw [hc, Nat.mul_one, List.getElem?_eq_getElem (by omega), Option.bind_eq_some_iff] at h1
      obtain ⟨cs', hcs', hy⟩ := h1
      obtain ⟨x, rfl, hw⟩ := trod_float he hy
      exact ⟨x, cell_of_cells?_one hcs', by simpa [Lit.wf] using hw⟩
    let f : Nat → Nat := fun i => match w.cell? (a.add i) with | some (.float _ x) => x | _ => 0
    have hfi : ∀ i, i < len → w.cell? (a.add i) = some (.float .f64 (f i)) ∧ f i < 18446744073709551616 := by
      intro i hi
      obtain ⟨x, hx, hl⟩ := each i hi
      have : f i = x := by simp only [f, hx]
      rw [this]; exact ⟨hx, hl⟩
    obtain ⟨b, o, spot⟩ := a
    have hspot : spot = none := by simpa [Addr.add] using World.cell?_spot (hfi 0 h0).1
    subst hspot
    refine ⟨(List.range len).map f, ?_, .inr ⟨by simpa using h0, b, o, cap, by simp, by simpa using hl, ?_, ?_⟩⟩
    · intro x hx
      obtain ⟨i, hi, rfl⟩ := List.mem_map.1 hx
      exact (hfi i (by simpa using hi)).2
    · have := block_of_cell (hfi 0 h0).1
      simpa [block_add] using this
    · intro k hk
      have hk' : k < len := by simpa using hk
      have := (hfi k hk').1
      rw [add_plain] at this
      rw [this]
      simp [List.getD, hk']
end

theorem Try.laidOut : laidOutB Try.prog = true := by kernel_rfl
theorem Try.cellsF : Try.prog.cellsOf 22 = 1 := by kernel_rfl

end Go.Proofs.Ytfohfpeeghnocab
