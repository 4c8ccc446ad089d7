/- An argument that is a slice of turns, or of ints: what is read of it; five arguments. -/
import Derived.Test.YtffjbngelapmmaaOsG
import Derived.Test.YtffjbngelapmmaaPost
import Derived.Deep.Slices
import Derived.Deep.Fields
namespace Go.Proofs.Ytffjbngelapmmaa
open Go.RowKit Go.WideShapes Go.ChangeShapes Go.ChangeAt Go.Joins Go.Deep

theorem Try.laidOut : laidOutB Try.prog = true := by kernel_rfl
theorem Try.cellsTurn : Try.prog.cellsOf 32 = 2 := by kernel_rfl
theorem Try.cellsI : Try.prog.cellsOf 3 = 1 := by kernel_rfl
theorem Try.cellsR : Try.prog.cellsOf 30 = 1 := by kernel_rfl

theorem block_of_cell {w : World} {a : Addr} {v : Value} (h : w.cell? a = some v) : a.block < w.heap.size := World.block_lt_of_cell? _ _ h
theorem add_flat (b o i : Nat) : (⟨b, o, none⟩ : Addr).add i = ⟨b, o + i, none⟩ := by unfold Addr.add; split <;> simp_all

theorem two_of {l : List Value} (h : l.length = 2) : ∃ a b, l = [a, b] := by
  match l, h with
  | [a, b], _ => exact ⟨a, b, rfl⟩
set_option maxRecDepth 100000 in
theorem open_turns {H : Type} {enc : TypeId × Value → H} {w : World} {base : Nat} {spare : Nat → Bool} {held : Bool} {a0 : Option Addr} {len cap : Nat} {d : DataW H} {p : List MemPlace}
    (h : DataW.Trod enc Try.prog w base spare held 23 (.slice a0 len cap) d p) : ∃ ts, TArg w (.slice a0 len cap) ts := by
  obtain ⟨fuel, hf⟩ := h
  rcases open_slice Try.underlying23 hf with ⟨hcs, _⟩ | ⟨a, len', cap', m, n, D, Pl, hcs, _, hl, _, hm, _, hi⟩
  · simp [Value.cells] at hcs
    obtain ⟨rfl, rfl, rfl⟩ := hcs
    exact ⟨[], fun k hk => by simp at hk, .inl ⟨rfl, _, _, rfl, fun _ => rfl⟩⟩
  · simp [Value.cells] at hcs
    obtain ⟨rfl, rfl, rfl⟩ := hcs
    rcases Nat.eq_zero_or_pos len with h0 | h0
    · subst h0
      exact ⟨[], fun k hk => by simp at hk, .inl ⟨rfl, _, _, rfl, fun e => by cases e⟩⟩
    have hlm : len ≤ m := by rw [hm]; split <;> omega
    have each : ∀ i, i < len → ∃ xy : Int × Int, In64 xy.1 ∧ In64 xy.2 ∧ w.cell? ((a.add (i * 2)).add 0) = some (.int .i64 xy.1) ∧ w.cell? ((a.add (i * 2)).add 1) = some (.int .i64 xy.2) := by
      intro i hil
      obtain ⟨cs', hc, ht⟩ := hi i (by omega)
      rw [Try.cellsTurn] at hc
      obtain ⟨_, hcl, hat⟩ := World.cells?_some hc
      obtain ⟨ys, n', _, _, _, _, hg⟩ := DataW.trod_struct Try.underlying32 ht
      have g0 := hg 0 _ rfl
      have g1 := hg 1 _ rfl
      obtain ⟨c0, c1, rfl⟩ := two_of hcl
      have e0 : ∃ x, DataW.trod enc Try.prog w base spare held n' 3 [c0] = some x := by
        have hlen : ys.length = 2 := by assumption
        refine ⟨ys[0]'(by omega), ?_⟩
        rw [← List.getElem?_eq_getElem (by omega)]
        simpa [Try.cellsI] using g0
      have e1 : ∃ x, DataW.trod enc Try.prog w base spare held n' 30 [c1] = some x := by
        have hlen : ys.length = 2 := by assumption
        refine ⟨ys[1]'(by omega), ?_⟩
        rw [← List.getElem?_eq_getElem (by omega)]
        simpa [Try.cellsR] using g1
      obtain ⟨x0, e0⟩ := e0
      obtain ⟨x1, e1⟩ := e1
      obtain ⟨z0, hz0, _, w0⟩ := DataW.trod_int Try.underlying3 e0
      obtain ⟨z1, hz1, _, w1⟩ := DataW.trod_int Try.underlying30 e1
      have b0 := bounds_i64 w0
      have b1 := bounds_i64 w1
      simp at hz0 hz1
      subst hz0 hz1
      exact ⟨(z0, z1), ⟨b0.1, by show z0 < _; omega⟩, ⟨b1.1, by show z1 < _; omega⟩, hat 0 (by omega), hat 1 (by omega)⟩
    obtain ⟨F, hF⟩ := choose_lt each
    obtain ⟨b, o, spot⟩ := a
    have hspot : spot = none := by
      have := World.cell?_spot (hF 0 h0).2.2.1
      simpa [Addr.add] using this
    subst hspot
    have hlen : ((List.range len).map F).length = len := by simp
    have hA : ∀ k, k < len → tA ((List.range len).map F) k = (F k).1 := fun k hk => by unfold tA; simp [List.getD_eq_getElem?_getD, hk]
    have hR : ∀ k, k < len → tR ((List.range len).map F) k = (F k).2 := fun k hk => by unfold tR; simp [List.getD_eq_getElem?_getD, hk]
    refine ⟨(List.range len).map F, fun k hk => ?_, .inr ⟨by omega, b, o, cap, by rw [hlen], by omega, ?_, fun k hk => ?_⟩⟩
    · rw [hlen] at hk
      rw [hA k hk, hR k hk]
      exact ⟨(hF k hk).1, (hF k hk).2.1⟩
    · have := block_of_cell (hF 0 h0).2.2.1
      simpa [block_add] using this
    · rw [hlen] at hk
      rw [hA k hk, hR k hk]
      have h1 := (hF k hk).2.2.1
      have h2 := (hF k hk).2.2.2
      rw [add_flat, add_flat] at h1 h2
      exact ⟨h1, h2⟩

section
variable {H : Type} {enc : TypeId × Value → H} {P : Program} {w : World} {base : Nat} {spare : Nat → Bool} {held : Bool}
theorem trodAll_five {t0 t1 t2 t3 t4 : TypeId} {args : Array Value} {ds : List (DataW H)} {ps : List MemPlace} (h : DataW.TrodAll enc P w base spare held [t0, t1, t2, t3, t4] args.toList ds ps) :
    ∃ v0 v1 v2 v3 v4 d0 d1 d2 d3 d4 p0 p1 p2 p3 p4, args = #[v0, v1, v2, v3, v4] ∧ ds = [d0, d1, d2, d3, d4] ∧ ps = p0 ++ p1 ++ p2 ++ p3 ++ p4 ∧ DataW.Trod enc P w base spare held t0 v0 d0 p0 ∧ DataW.Trod enc P w base spare held t1 v1 d1 p1 ∧ DataW.Trod enc P w base spare held t2 v2 d2 p2 ∧ DataW.Trod enc P w base spare held t3 v3 d3 p3 ∧ DataW.Trod enc P w base spare held t4 v4 d4 p4 := by
  obtain ⟨v0, vs, d0, ds', p0, q, hargs, rfl, rfl, h0, hr⟩ := trodAll_cons h
  obtain ⟨v1, vs1, d1, ds1, p1, q1, rfl, rfl, rfl, h1, hr1⟩ := trodAll_cons hr
  obtain ⟨v2, vs2, d2, ds2, p2, q2, rfl, rfl, rfl, h2, hr2⟩ := trodAll_cons hr1
  obtain ⟨v3, vs3, d3, ds3, p3, q3, rfl, rfl, rfl, h3, hr3⟩ := trodAll_cons hr2
  obtain ⟨v4, vs4, d4, ds4, p4, q4, rfl, rfl, rfl, h4, hr4⟩ := trodAll_cons hr3
  obtain ⟨rfl, rfl, rfl⟩ := trodAll_nil hr4
  exact ⟨v0, v1, v2, v3, v4, d0, d1, d2, d3, d4, p0, p1, p2, p3, p4, by cases args; simp_all, rfl, by simp, h0, h1, h2, h3, h4⟩
theorem trodAll_mk5 {t0 t1 t2 t3 t4 : TypeId} {v0 v1 v2 v3 v4 : Value} {d0 d1 d2 d3 d4 : DataW H} {p0 p1 p2 p3 p4 : List MemPlace} (h0 : DataW.Trod enc P w base spare held t0 v0 d0 p0) (h1 : DataW.Trod enc P w base spare held t1 v1 d1 p1)
    (h2 : DataW.Trod enc P w base spare held t2 v2 d2 p2) (h3 : DataW.Trod enc P w base spare held t3 v3 d3 p3) (h4 : DataW.Trod enc P w base spare held t4 v4 d4 p4) : DataW.TrodAll enc P w base spare held [t0, t1, t2, t3, t4] [v0, v1, v2, v3, v4] [d0, d1, d2, d3, d4] (p0 ++ (p1 ++ (p2 ++ (p3 ++ p4)))) := ⟨p0, p1 ++ (p2 ++ (p3 ++ p4)), h0, trodAll_mk4 h1 h2 h3 h4, rfl⟩
end

end Go.Proofs.Ytffjbngelapmmaa
