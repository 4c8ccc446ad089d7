/- An argument that is a list of gates, or ints: what is read of it. -/
import Derived.Test.YtllmfkodgalklaaGtMem
import Derived.Test.YtllmfkodgalklaaPost
import Derived.Deep.Slices
import Derived.Deep.Fields
namespace Go.Proofs.Ytllmfkodgalklaa
open Go.RowKit Go.WideShapes Go.ChangeShapes Go.ChangeAt Go.Joins Go.Deep

theorem Try.laidOut : laidOutB Try.prog = true := by kernel_rfl
theorem Try.czSlot : Try.prog.cellsOf 64 = 2 := by kernel_rfl
theorem Try.czList : Try.prog.cellsOf 24 = 3 := by kernel_rfl
theorem Try.czI : Try.prog.cellsOf 3 = 1 := by kernel_rfl
theorem Try.czSl : Try.prog.cellsOf 22 = 1 := by kernel_rfl
theorem block_of_cell {w : World} {a : Addr} {v : Value} (h : w.cell? a = some v) : a.block < w.heap.size := World.block_lt_of_cell? _ _ h
theorem add_flat (b o i : Nat) : (⟨b, o, none⟩ : Addr).add i = ⟨b, o + i, none⟩ := by unfold Addr.add; split <;> simp_all
theorem in_of_wf {n : Int} (h : (Lit.int .i64 n).wf = true) : In64 n := by
  have := bounds_i64 h
  exact ⟨by omega, by omega⟩
theorem two_of {l : List Value} (h : l.length = 2) : ∃ a b, l = [a, b] := by
  match l, h with
  | [a, b], _ => exact ⟨a, b, rfl⟩
section
variable {H : Type} {enc : TypeId × Value → H} {w : World} {base : Nat} {spare : Nat → Bool} {held : Bool}
set_option maxRecDepth 100000 in
theorem rd_slots {n0 : Nat} {c2 : Value} {x : DataW H × List MemPlace} (hf : DataW.trod enc Try.prog w base spare held n0 22 [c2] = some x) : ∃ ts, TArg w c2 ts := by
  rcases open_slice Try.underlying22 hf with ⟨hcs, _⟩ | ⟨a, len, cap, m, n, D, Pl, hcs, _, hl, _, hm, _, hi⟩
  · injection hcs with hcs
    subst hcs
    exact ⟨[], fun k hk => by simp at hk, .inl ⟨rfl, _, _, rfl, fun _ => rfl⟩⟩
  · injection hcs with hcs
    subst hcs
    rcases Nat.eq_zero_or_pos len with h0 | h0
    · subst h0
      exact ⟨[], fun k hk => by simp at hk, .inl ⟨rfl, _, _, rfl, fun e => by cases e⟩⟩
    have hlm : len ≤ m := by rw [hm]; split <;> omega
    have each : ∀ i, i < len → ∃ xy : Int × Int, In64 xy.1 ∧ In64 xy.2 ∧ w.cell? ((a.add (i * 2)).add 0) = some (.int .i64 xy.1) ∧ w.cell? ((a.add (i * 2)).add 1) = some (.int .i64 xy.2) := by
      intro i hil
      obtain ⟨cs', hc, ht⟩ := hi i (by omega)
      rw [Try.czSlot] at hc
      obtain ⟨_, hcl, hat⟩ := World.cells?_some hc
      obtain ⟨ys, n', _, _, _, _, hg⟩ := DataW.trod_struct Try.underlying64 ht
      have g0 := hg 0 _ rfl
      have g1 := hg 1 _ rfl
      obtain ⟨c0, c1, rfl⟩ := two_of hcl
      have e0 : ∃ x, DataW.trod enc Try.prog w base spare held n' 3 [c0] = some x := by
        have hlen : ys.length = 2 := by assumption
        refine ⟨ys[0]'(by omega), ?_⟩
        rw [← List.getElem?_eq_getElem (by omega)]
        simpa [Try.czI] using g0
      have e1 : ∃ x, DataW.trod enc Try.prog w base spare held n' 3 [c1] = some x := by
        have hlen : ys.length = 2 := by assumption
        refine ⟨ys[1]'(by omega), ?_⟩
        rw [← List.getElem?_eq_getElem (by omega)]
        simpa [Try.czI] using g1
      obtain ⟨x0, e0⟩ := e0
      obtain ⟨x1, e1⟩ := e1
      obtain ⟨z0, hz0, _, w0⟩ := DataW.trod_int Try.underlying3 e0
      obtain ⟨z1, hz1, _, w1⟩ := DataW.trod_int Try.underlying3 e1
      simp at hz0 hz1
      subst hz0 hz1
      exact ⟨(z0, z1), in_of_wf w0, in_of_wf w1, hat 0 (by omega), hat 1 (by omega)⟩
    obtain ⟨F, hF⟩ := choose_lt each
    obtain ⟨b, o, spot⟩ := a
    have hspot : spot = none := by
      have := World.cell?_spot (hF 0 h0).2.2.1
      simpa [Addr.add] using this
    subst hspot
    have hlen : ((List.range len).map F).length = len := by simp
    have hA : ∀ k, k < len → tA ((List.range len).map F) k = (F k).1 := fun k hk => by unfold tA; simp [List.getD_eq_getElem?_getD, hk]
    have hR : ∀ k, k < len → tR ((List.range len).map F) k = (F k).2 := fun k hk => by unfold tR; simp [List.getD_eq_getElem?_getD, hk]
    refine ⟨(List.range len).map F, fun k hk => ?_, .inr ⟨by omega, b, o, cap, by rw [hlen], by omega, ?_, fun k hk => ?_⟩⟩
    · rw [hlen] at hk
      rw [hA k hk, hR k hk]
      exact ⟨(hF k hk).1, (hF k hk).2.1⟩
    · have := block_of_cell (hF 0 h0).2.2.1
      simpa [block_add] using this
    · rw [hlen] at hk
      rw [hA k hk, hR k hk]
      have h1 := (hF k hk).2.2.1
      have h2 := (hF k hk).2.2.2
      rw [add_flat, add_flat] at h1 h2
      exact ⟨h1, h2⟩
set_option maxHeartbeats 1000000 in
theorem rd_list {n : Nat} {c0 c1 c2 : Value} {x : DataW H × List MemPlace} (h : DataW.trod enc Try.prog w base spare held n 24 [c0, c1, c2] = some x) :
    ∃ (z0 z1 : Int) (ts : List (Int × Int)), c0 = .int .i64 z0 ∧ c1 = .int .i64 z1 ∧ In64 z0 ∧ In64 z1 ∧ TArg w c2 ts := by
  obtain ⟨xs, m, _, _, _, hl, hall⟩ := DataW.trod_struct Try.underlying24 h
  have hx : ∀ i, i < 3 → ∃ y, xs[i]? = some y := fun i hi => ⟨xs[i]'(by rw [hl]; exact hi), List.getElem?_eq_getElem _⟩
  obtain ⟨y0, hy0⟩ := hx 0 (by omega)
  have t0 := hall 0 _ rfl
  rw [hy0] at t0
  have u0 : DataW.trod enc Try.prog w base spare held m 3 [c0] = some y0 := by
    have e : DataW.trod enc Try.prog w base spare held m 3 ((List.drop 0 [c0, c1, c2]).take (Try.prog.cellsOf 3)) = some y0 := t0
    rw [Try.czI] at e
    exact e
  clear t0
  obtain ⟨z0, g0, _, w0⟩ := DataW.trod_int Try.underlying3 u0
  injection g0 with g0
  obtain ⟨y1, hy1⟩ := hx 1 (by omega)
  have t1 := hall 1 _ rfl
  rw [hy1] at t1
  have u1 : DataW.trod enc Try.prog w base spare held m 3 [c1] = some y1 := by
    have e : DataW.trod enc Try.prog w base spare held m 3 ((List.drop 1 [c0, c1, c2]).take (Try.prog.cellsOf 3)) = some y1 := t1
    rw [Try.czI] at e
    exact e
  clear t1
  obtain ⟨z1, g1, _, w1⟩ := DataW.trod_int Try.underlying3 u1
  injection g1 with g1
  obtain ⟨y2, hy2⟩ := hx 2 (by omega)
  have t2 := hall 2 _ rfl
  rw [hy2] at t2
  have u2 : DataW.trod enc Try.prog w base spare held m 22 [c2] = some y2 := by
    have e : DataW.trod enc Try.prog w base spare held m 22 ((List.drop 2 [c0, c1, c2]).take (Try.prog.cellsOf 22)) = some y2 := t2
    rw [Try.czSl] at e
    exact e
  clear t2
  obtain ⟨ts, g2⟩ := rd_slots u2
  exact ⟨z0, z1, ts, g0, g1, in_of_wf w0, in_of_wf w1, g2⟩
theorem row_of3 {l : List Value} (h : l.length = 3) : ∃ c0 c1 c2, l = [c0, c1, c2] := by
  match l, h with
  | [c0, c1, c2], _ => exact ⟨c0, c1, c2, rfl⟩
theorem open_list {r : Reach} {b0 : Nat} {v : Value} {d : DataW H} {p : List MemPlace} (hv : Value.okWide Try.prog w r b0 24 v) (h : DataW.Trod enc Try.prog w base spare held 24 v d p) :
    ∃ (z0 z1 : Int) (sl : Value) (ts : List (Int × Int)), v = .agg #[.int .i64 z0, .int .i64 z1, sl] ∧ In64 z0 ∧ In64 z1 ∧ TArg w sl ts := by
  have hrow : ∃ cs, v = .agg cs ∧ cs.size = Try.prog.cellsOf 24 ∧ Row.okWide Try.prog w r b0 24 cs := by
    simp only [Value.okWide, Try.underlying24] at hv
    exact hv
  obtain ⟨⟨l⟩, rfl, hsz, _⟩ := hrow
  obtain ⟨c0, c1, c2, rfl⟩ := row_of3 (hsz.trans Try.czList)
  obtain ⟨fuel, hf⟩ := h
  obtain ⟨z0, z1, ts, rfl, rfl, b0, b1, ht⟩ := rd_list (by simpa [Value.cells] using hf)
  exact ⟨z0, z1, c2, ts, rfl, b0, b1, ht⟩
end

end Go.Proofs.Ytllmfkodgalklaa
