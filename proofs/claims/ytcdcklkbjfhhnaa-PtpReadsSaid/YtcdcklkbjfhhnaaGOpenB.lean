/- An argument that is a slice of bytes: what is read of it. -/
import Derived.Test.YtcdcklkbjfhhnaaGByt
namespace Go.Proofs.Ytcdcklkbjfhhnaa
open Go.RowKit Go.WideShapes Go.ChangeShapes Go.ChangeAt Go.Joins

theorem Try.laidOut : laidOutB Try.prog = true := by kernel_rfl
theorem Try.cellsB : Try.prog.cellsOf 5 = 1 := by kernel_rfl

theorem block_of_cell {w : World} {a : Addr} {v : Value} (h : w.cell? a = some v) : a.block < w.heap.size := by
  refine Nat.lt_of_not_le fun hh => ?_
  have e : w.heap[a.block]? = none := by simp; omega
  simp [World.cell?, e] at h

theorem open_bytes {H : Type} {enc : TypeId × Value → H} {w : World} {base : Nat} {spare : Nat → Bool} {held : Bool} {a0 : Option Addr} {len cap : Nat} {d : DataW H} {p : List MemPlace}
    (h : DataW.Trod enc Try.prog w base spare held 30 (.slice a0 len cap) d p) : ∃ xs, BArg w (.slice a0 len cap) xs := by
  obtain ⟨fuel, hf⟩ := h
  rcases open_ints Try.underlying30 Try.underlying5 Try.cellsB hf with ⟨hcs, _⟩ | ⟨a, len', cap', zs, hcs, _, hl, _, hzl, _, hc, hw⟩
  · simp [Value.cells] at hcs
    obtain ⟨rfl, rfl, rfl⟩ := hcs
    exact ⟨[], fun x hx => by simp at hx, .inl ⟨rfl, _, _, rfl, fun _ => rfl⟩⟩
  · simp [Value.cells] at hcs
    obtain ⟨rfl, rfl, rfl⟩ := hcs
    rcases Nat.eq_zero_or_pos len with h0 | h0
    · subst h0
      exact ⟨[], fun x hx => by simp at hx, .inl ⟨rfl, _, _, rfl, fun e => by cases e⟩⟩
    have hlen : len ≤ zs.length := by rw [hzl]; split <;> omega
    have hz : ∀ z ∈ zs, 0 ≤ z ∧ z ≤ 255 := fun z hz => bounds_u8 (hw z hz)
    obtain ⟨b, o, spot⟩ := a
    have hspot : spot = none := by simpa [Addr.add] using World.cell?_spot (hc 0 (by omega))
    subst hspot
    have hll : ((zs.take len).map Int.toNat).length = len := by simp; omega
    refine ⟨(zs.take len).map Int.toNat, fun x hx => ?_, .inr ⟨by omega, b, o, cap, by rw [hll], by omega, fun _ => ⟨?_, fun k hk => ?_⟩⟩⟩
    · obtain ⟨z, hzm, rfl⟩ := List.mem_map.1 hx
      have := hz z (List.mem_of_mem_take hzm)
      omega
    · have := block_of_cell (hc 0 (by omega))
      simpa [block_add] using this
    · have hk' : k < len := by omega
      have hk2 : k < zs.length := by omega
      have := hc k hk2
      rw [add_plain] at this
      rw [this]
      have hzk := hz (zs[k]) (List.getElem_mem hk2)
      simp [List.getD_eq_getElem?_getD, List.getElem?_eq_getElem hk2, hk']
      omega

end Go.Proofs.Ytcdcklkbjfhhnaa
