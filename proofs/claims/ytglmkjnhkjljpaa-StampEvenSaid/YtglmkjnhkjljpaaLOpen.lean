/- An argument that is a slice of ints: what is read of it. -/
import Derived.Test.YtglmkjnhkjljpaaLong
namespace Go.Proofs.Ytglmkjnhkjljpaa
open Go.RowKit Go.WideShapes Go.ChangeShapes Go.ChangeAt Go.Joins

theorem Try.laidOut : laidOutB Try.prog = true := by kernel_rfl
theorem Try.cellsL : Try.prog.cellsOf 3 = 1 := by kernel_rfl

theorem block_of_cell {w : World} {a : Addr} {v : Value} (h : w.cell? a = some v) : a.block < w.heap.size := by
  refine Nat.lt_of_not_le fun hh => ?_
  have e : w.heap[a.block]? = none := by simp; omega
  simp [World.cell?, e] at h

theorem open_longs {H : Type} {enc : TypeId × Value → H} {w : World} {base : Nat} {spare : Nat → Bool} {held : Bool} {a0 : Option Addr} {len cap : Nat} {d : DataW H} {p : List MemPlace}
    (h : DataW.Trod enc Try.prog w base spare held 38 (.slice a0 len cap) d p) : ∃ xs, LArg w (.slice a0 len cap) xs := by
  obtain ⟨fuel, hf⟩ := h
  rcases open_ints Try.underlying38 Try.underlying3 Try.cellsL hf with ⟨hcs, _⟩ | ⟨a, len', cap', zs, hcs, _, hl, _, hzl, _, hc, hw⟩
  · simp [Value.cells] at hcs
    obtain ⟨rfl, rfl, rfl⟩ := hcs
    exact ⟨[], fun x hx => by simp at hx, .inl ⟨rfl, _, _, rfl, fun _ => rfl⟩⟩
  · simp [Value.cells] at hcs
    obtain ⟨rfl, rfl, rfl⟩ := hcs
    rcases Nat.eq_zero_or_pos len with h0 | h0
    · subst h0
      exact ⟨[], fun x hx => by simp at hx, .inl ⟨rfl, _, _, rfl, fun e => by cases e⟩⟩
    have hlen : len ≤ zs.length := by rw [hzl]; split <;> omega
    obtain ⟨b, o, spot⟩ := a
    have hspot : spot = none := by simpa [Addr.add] using World.cell?_spot (hc 0 (by omega))
    subst hspot
    have hll : (zs.take len).length = len := by simp; omega
    refine ⟨zs.take len, fun x hx => ?_, .inr ⟨by omega, b, o, cap, by rw [hll], by omega, fun _ => ⟨?_, fun k hk => ?_⟩⟩⟩
    · have := bounds_i64 (hw x (List.mem_of_mem_take hx))
      exact ⟨this.1, by omega⟩
    · have := block_of_cell (hc 0 (by omega))
      simpa [block_add] using this
    · have hk' : k < len := by omega
      have := hc k (by omega)
      rw [add_plain] at this
      rw [this, List.getD_eq_getElem?_getD, List.getD_eq_getElem?_getD, List.getElem?_take, if_pos hk']

end Go.Proofs.Ytglmkjnhkjljpaa
