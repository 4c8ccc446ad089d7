/- An argument that is a message: what is read of it. -/
import Derived.Test.YtcdcklkbjfhhnaaGOpenB
import Derived.Test.YtcdcklkbjfhhnaaPtMsg
namespace Go.Proofs.Ytcdcklkbjfhhnaa
open Go.RowKit Go.WideShapes Go.ChangeShapes Go.ChangeAt Go.Joins

theorem Try.cellsG : Try.prog.cellsOf 28 = 16 := by kernel_rfl
theorem Try.cellsP : Try.prog.cellsOf 25 = 4 := by kernel_rfl
theorem Try.cellsI : Try.prog.cellsOf 3 = 1 := by kernel_rfl
theorem Try.cellsT : Try.prog.cellsOf 22 = 1 := by kernel_rfl
theorem Try.cellsR : Try.prog.cellsOf 23 = 1 := by kernel_rfl
theorem Try.cellsL : Try.prog.cellsOf 26 = 1 := by kernel_rfl
theorem open_longs {H : Type} {enc : TypeId × Value → H} {w : World} {base : Nat} {spare : Nat → Bool} {held : Bool} {a0 : Option Addr} {len cap : Nat} {d : DataW H} {p : List MemPlace}
    (h : DataW.Trod enc Try.prog w base spare held 26 (.slice a0 len cap) d p) : ∃ xs, LArg w (.slice a0 len cap) xs := by
  obtain ⟨fuel, hf⟩ := h
  rcases open_ints Try.underlying26 Try.underlying3 Try.cellsI hf with ⟨hcs, _⟩ | ⟨a, len', cap', zs, hcs, _, hl, _, hzl, _, hc, hw⟩
  · simp [Value.cells] at hcs
    obtain ⟨rfl, rfl, rfl⟩ := hcs
    exact ⟨[], fun x hx => by simp at hx, .inl ⟨rfl, _, _, rfl, fun _ => rfl⟩⟩
  · simp [Value.cells] at hcs
    obtain ⟨rfl, rfl, rfl⟩ := hcs
    rcases Nat.eq_zero_or_pos len with h0 | h0
    · subst h0
      exact ⟨[], fun x hx => by simp at hx, .inl ⟨rfl, _, _, rfl, fun e => by cases e⟩⟩
    have hlen : len ≤ zs.length := by rw [hzl]; split <;> omega
    obtain ⟨b, o, spot⟩ := a
    have hspot : spot = none := by simpa [Addr.add] using World.cell?_spot (hc 0 (by omega))
    subst hspot
    have hll : (zs.take len).length = len := by simp; omega
    refine ⟨zs.take len, fun x hx => ?_, .inr ⟨by omega, b, o, cap, by rw [hll], by omega, fun _ => ⟨?_, fun k hk => ?_⟩⟩⟩
    · have := bounds_i64 (hw x (List.mem_of_mem_take hx))
      exact ⟨this.1, by omega⟩
    · have := block_of_cell (hc 0 (by omega))
      simpa [block_add] using this
    · have hk' : k < len := by omega
      have := hc k (by omega)
      rw [add_plain] at this
      rw [this, List.getD_eq_getElem?_getD, List.getD_eq_getElem?_getD, List.getElem?_take, if_pos hk']

theorem array16 {cs : Array Value} (h : cs.size = 16) : ∃ c0 c1 c2 c3 c4 c5 c6 c7 c8 c9 c10 c11 c12 c13 c14 c15, cs = #[c0, c1, c2, c3, c4, c5, c6, c7, c8, c9, c10, c11, c12, c13, c14, c15] := by
  obtain ⟨l⟩ := cs
  have hl : l.length = 16 := h
  match l, hl with
  | [c0, c1, c2, c3, c4, c5, c6, c7, c8, c9, c10, c11, c12, c13, c14, c15], _ => exact ⟨c0, c1, c2, c3, c4, c5, c6, c7, c8, c9, c10, c11, c12, c13, c14, c15, rfl⟩
theorem array4 {l : List Value} (h : l.length = 4) : ∃ a b c d, l = [a, b, c, d] := by
  match l, h with
  | [a, b, c, d], _ => exact ⟨a, b, c, d, rfl⟩
theorem in64_of {x : Int} (h : (Lit.int .i64 x).wf = true) : In64 x := by
  have := bounds_i64 h
  unfold In64; omega

section
variable {H : Type} {enc : TypeId × Value → H} {w : World} {base : Nat} {spare : Nat → Bool} {held : Bool}
theorem open_prior {n : Nat} {a b c d : Value} {x : DataW H × List MemPlace} (h : DataW.trod enc Try.prog w base spare held n 25 [a, b, c, d] = some x) :
    ∃ y0 y1 y2 y3 : Int, a = .int .i64 y0 ∧ b = .int .i64 y1 ∧ c = .int .i64 y2 ∧ d = .int .i64 y3 ∧ In64 y0 ∧ In64 y1 ∧ In64 y2 ∧ In64 y3 := by
  obtain ⟨xs, m, _, _, _, hl, hall⟩ := DataW.trod_struct Try.underlying25 h
  have hx : ∀ i, i < 4 → ∃ y, xs[i]? = some y := fun i hi => ⟨xs[i]'(by rw [hl]; exact hi), List.getElem?_eq_getElem _⟩
  obtain ⟨y0, hy0⟩ := hx 0 (by omega)
  have t0 := hall 0 _ rfl
  rw [hy0] at t0
  have u0 : DataW.trod enc Try.prog w base spare held m 3 [a] = some y0 := by
    have e : DataW.trod enc Try.prog w base spare held m 3 ((List.drop 0 [a, b, c, d]).take (Try.prog.cellsOf 3)) = some y0 := t0
    rw [Try.cellsI] at e
    exact e
  clear t0
  obtain ⟨z0, e0, _, w0⟩ := DataW.trod_int Try.underlying3 u0
  injection e0 with e0
  obtain ⟨y1, hy1⟩ := hx 1 (by omega)
  have t1 := hall 1 _ rfl
  rw [hy1] at t1
  have u1 : DataW.trod enc Try.prog w base spare held m 3 [b] = some y1 := by
    have e : DataW.trod enc Try.prog w base spare held m 3 ((List.drop 1 [a, b, c, d]).take (Try.prog.cellsOf 3)) = some y1 := t1
    rw [Try.cellsI] at e
    exact e
  clear t1
  obtain ⟨z1, e1, _, w1⟩ := DataW.trod_int Try.underlying3 u1
  injection e1 with e1
  obtain ⟨y2, hy2⟩ := hx 2 (by omega)
  have t2 := hall 2 _ rfl
  rw [hy2] at t2
  have u2 : DataW.trod enc Try.prog w base spare held m 3 [c] = some y2 := by
    have e : DataW.trod enc Try.prog w base spare held m 3 ((List.drop 2 [a, b, c, d]).take (Try.prog.cellsOf 3)) = some y2 := t2
    rw [Try.cellsI] at e
    exact e
  clear t2
  obtain ⟨z2, e2, _, w2⟩ := DataW.trod_int Try.underlying3 u2
  injection e2 with e2
  obtain ⟨y3, hy3⟩ := hx 3 (by omega)
  have t3 := hall 3 _ rfl
  rw [hy3] at t3
  have u3 : DataW.trod enc Try.prog w base spare held m 3 [d] = some y3 := by
    have e : DataW.trod enc Try.prog w base spare held m 3 ((List.drop 3 [a, b, c, d]).take (Try.prog.cellsOf 3)) = some y3 := t3
    rw [Try.cellsI] at e
    exact e
  clear t3
  obtain ⟨z3, e3, _, w3⟩ := DataW.trod_int Try.underlying3 u3
  injection e3 with e3
  exact ⟨z0, z1, z2, z3, e0, e1, e2, e3, in64_of w0, in64_of w1, in64_of w2, in64_of w3⟩

theorem open_msg {r : Reach} {b0 : Nat} {v : Value} {d : DataW H} {p : List MemPlace} (hv : Value.okWide Try.prog w r b0 28 v) (h : DataW.Trod enc Try.prog w base spare held 28 v d p) :
    ∃ (m : Mg) (u : Value), v = MV m u ∧ m.Wf ∧ LArg w u m.path := by
  have hrow : ∃ cs, v = .agg cs ∧ cs.size = Try.prog.cellsOf 28 ∧ Row.okWide Try.prog w r b0 28 cs := by
    simp only [Value.okWide, Try.underlying28] at hv
    exact hv
  obtain ⟨cs, rfl, hsz, hcells⟩ := hrow
  obtain ⟨c0, c1, c2, c3, c4, c5, c6, c7, c8, c9, c10, c11, c12, c13, c14, c15, rfl⟩ := array16 (hsz.trans Try.cellsG)
  obtain ⟨fuel, hf⟩ := h
  obtain ⟨xs, n, _, _, _, hl, hall⟩ := DataW.trod_struct Try.underlying28 hf
  have hx : ∀ i, i < 13 → ∃ y, xs[i]? = some y := fun i hi => ⟨xs[i]'(by rw [hl]; exact hi), List.getElem?_eq_getElem _⟩
  obtain ⟨y0, hy0⟩ := hx 0 (by omega)
  have t0 := hall 0 _ rfl
  rw [hy0] at t0
  have u0 : DataW.trod enc Try.prog w base spare held n 3 [c0] = some y0 := by
    have e : DataW.trod enc Try.prog w base spare held n 3 ((List.drop 0 [c0, c1, c2, c3, c4, c5, c6, c7, c8, c9, c10, c11, c12, c13, c14, c15]).take (Try.prog.cellsOf 3)) = some y0 := t0
    rw [Try.cellsI] at e
    exact e
  clear t0
  obtain ⟨y1, hy1⟩ := hx 1 (by omega)
  have t1 := hall 1 _ rfl
  rw [hy1] at t1
  have u1 : DataW.trod enc Try.prog w base spare held n 3 [c1] = some y1 := by
    have e : DataW.trod enc Try.prog w base spare held n 3 ((List.drop 1 [c0, c1, c2, c3, c4, c5, c6, c7, c8, c9, c10, c11, c12, c13, c14, c15]).take (Try.prog.cellsOf 3)) = some y1 := t1
    rw [Try.cellsI] at e
    exact e
  clear t1
  obtain ⟨y2, hy2⟩ := hx 2 (by omega)
  have t2 := hall 2 _ rfl
  rw [hy2] at t2
  have u2 : DataW.trod enc Try.prog w base spare held n 3 [c2] = some y2 := by
    have e : DataW.trod enc Try.prog w base spare held n 3 ((List.drop 2 [c0, c1, c2, c3, c4, c5, c6, c7, c8, c9, c10, c11, c12, c13, c14, c15]).take (Try.prog.cellsOf 3)) = some y2 := t2
    rw [Try.cellsI] at e
    exact e
  clear t2
  obtain ⟨y3, hy3⟩ := hx 3 (by omega)
  have t3 := hall 3 _ rfl
  rw [hy3] at t3
  have u3 : DataW.trod enc Try.prog w base spare held n 3 [c3] = some y3 := by
    have e : DataW.trod enc Try.prog w base spare held n 3 ((List.drop 3 [c0, c1, c2, c3, c4, c5, c6, c7, c8, c9, c10, c11, c12, c13, c14, c15]).take (Try.prog.cellsOf 3)) = some y3 := t3
    rw [Try.cellsI] at e
    exact e
  clear t3
  obtain ⟨y4, hy4⟩ := hx 4 (by omega)
  have t4 := hall 4 _ rfl
  rw [hy4] at t4
  have u4 : DataW.trod enc Try.prog w base spare held n 3 [c4] = some y4 := by
    have e : DataW.trod enc Try.prog w base spare held n 3 ((List.drop 4 [c0, c1, c2, c3, c4, c5, c6, c7, c8, c9, c10, c11, c12, c13, c14, c15]).take (Try.prog.cellsOf 3)) = some y4 := t4
    rw [Try.cellsI] at e
    exact e
  clear t4
  obtain ⟨y5, hy5⟩ := hx 5 (by omega)
  have t5 := hall 5 _ rfl
  rw [hy5] at t5
  have u5 : DataW.trod enc Try.prog w base spare held n 22 [c5] = some y5 := by
    have e : DataW.trod enc Try.prog w base spare held n 22 ((List.drop 5 [c0, c1, c2, c3, c4, c5, c6, c7, c8, c9, c10, c11, c12, c13, c14, c15]).take (Try.prog.cellsOf 22)) = some y5 := t5
    rw [Try.cellsT] at e
    exact e
  clear t5
  obtain ⟨y6, hy6⟩ := hx 6 (by omega)
  have t6 := hall 6 _ rfl
  rw [hy6] at t6
  have u6 : DataW.trod enc Try.prog w base spare held n 22 [c6] = some y6 := by
    have e : DataW.trod enc Try.prog w base spare held n 22 ((List.drop 6 [c0, c1, c2, c3, c4, c5, c6, c7, c8, c9, c10, c11, c12, c13, c14, c15]).take (Try.prog.cellsOf 22)) = some y6 := t6
    rw [Try.cellsT] at e
    exact e
  clear t6
  obtain ⟨y7, hy7⟩ := hx 7 (by omega)
  have t7 := hall 7 _ rfl
  rw [hy7] at t7
  have u7 : DataW.trod enc Try.prog w base spare held n 3 [c7] = some y7 := by
    have e : DataW.trod enc Try.prog w base spare held n 3 ((List.drop 7 [c0, c1, c2, c3, c4, c5, c6, c7, c8, c9, c10, c11, c12, c13, c14, c15]).take (Try.prog.cellsOf 3)) = some y7 := t7
    rw [Try.cellsI] at e
    exact e
  clear t7
  obtain ⟨y8, hy8⟩ := hx 8 (by omega)
  have t8 := hall 8 _ rfl
  rw [hy8] at t8
  have u8 : DataW.trod enc Try.prog w base spare held n 3 [c8] = some y8 := by
    have e : DataW.trod enc Try.prog w base spare held n 3 ((List.drop 8 [c0, c1, c2, c3, c4, c5, c6, c7, c8, c9, c10, c11, c12, c13, c14, c15]).take (Try.prog.cellsOf 3)) = some y8 := t8
    rw [Try.cellsI] at e
    exact e
  clear t8
  obtain ⟨y9, hy9⟩ := hx 9 (by omega)
  have t9 := hall 9 _ rfl
  rw [hy9] at t9
  have u9 : DataW.trod enc Try.prog w base spare held n 23 [c9] = some y9 := by
    have e : DataW.trod enc Try.prog w base spare held n 23 ((List.drop 9 [c0, c1, c2, c3, c4, c5, c6, c7, c8, c9, c10, c11, c12, c13, c14, c15]).take (Try.prog.cellsOf 23)) = some y9 := t9
    rw [Try.cellsR] at e
    exact e
  clear t9
  obtain ⟨y10, hy10⟩ := hx 10 (by omega)
  have t10 := hall 10 _ rfl
  rw [hy10] at t10
  have u10 : DataW.trod enc Try.prog w base spare held n 25 [c10, c11, c12, c13] = some y10 := by
    have e : DataW.trod enc Try.prog w base spare held n 25 ((List.drop 10 [c0, c1, c2, c3, c4, c5, c6, c7, c8, c9, c10, c11, c12, c13, c14, c15]).take (Try.prog.cellsOf 25)) = some y10 := t10
    rw [Try.cellsP] at e
    exact e
  clear t10
  obtain ⟨y11, hy11⟩ := hx 11 (by omega)
  have t11 := hall 11 _ rfl
  rw [hy11] at t11
  have u11 : DataW.trod enc Try.prog w base spare held n 3 [c14] = some y11 := by
    have e : DataW.trod enc Try.prog w base spare held n 3 ((List.drop 14 [c0, c1, c2, c3, c4, c5, c6, c7, c8, c9, c10, c11, c12, c13, c14, c15]).take (Try.prog.cellsOf 3)) = some y11 := t11
    rw [Try.cellsI] at e
    exact e
  clear t11
  obtain ⟨y12, hy12⟩ := hx 12 (by omega)
  have t12 := hall 12 _ rfl
  rw [hy12] at t12
  have u12 : DataW.trod enc Try.prog w base spare held n 26 [c15] = some y12 := by
    have e : DataW.trod enc Try.prog w base spare held n 26 ((List.drop 15 [c0, c1, c2, c3, c4, c5, c6, c7, c8, c9, c10, c11, c12, c13, c14, c15]).take (Try.prog.cellsOf 26)) = some y12 := t12
    rw [Try.cellsL] at e
    exact e
  clear t12
  obtain ⟨kind, e0, _, wkind⟩ := DataW.trod_int Try.underlying3 u0
  injection e0 with e0
  subst e0
  obtain ⟨dom, e1, _, wdom⟩ := DataW.trod_int Try.underlying3 u1
  injection e1 with e1
  subst e1
  obtain ⟨seq, e2, _, wseq⟩ := DataW.trod_int Try.underlying3 u2
  injection e2 with e2
  subst e2
  obtain ⟨src, e3, _, wsrc⟩ := DataW.trod_int Try.underlying3 u3
  injection e3 with e3
  subst e3
  obtain ⟨port, e4, _, wport⟩ := DataW.trod_int Try.underlying3 u4
  injection e4 with e4
  subst e4
  obtain ⟨corr, e5, _, wcorr⟩ := DataW.trod_int Try.underlying22 u5
  injection e5 with e5
  subst e5
  obtain ⟨time, e6, _, wtime⟩ := DataW.trod_int Try.underlying22 u6
  injection e6 with e6
  subst e6
  obtain ⟨tw, e7, _, wtw⟩ := DataW.trod_int Try.underlying3 u7
  injection e7 with e7
  subst e7
  obtain ⟨tp, e8, _, wtp⟩ := DataW.trod_int Try.underlying3 u8
  injection e8 with e8
  subst e8
  obtain ⟨rate, e9, _, wrate⟩ := DataW.trod_int Try.underlying23 u9
  injection e9 with e9
  subst e9
  obtain ⟨steps, e11, _, wsteps⟩ := DataW.trod_int Try.underlying3 u11
  injection e11 with e11
  subst e11
  obtain ⟨one, cls, two, id, rfl, rfl, rfl, rfl, wone, wcls, wtwo, wid⟩ := open_prior u10
  have hsl : ∃ a0 len cap, c15 = .slice a0 len cap := by
    rcases DataW.trod_slice Try.underlying26 u12 with ⟨e, _⟩ | ⟨a, len, cap, _, _, _, _, e, _⟩
    · injection e with e; exact ⟨none, 0, 0, e⟩
    · injection e with e; exact ⟨some a, len, cap, e⟩
  obtain ⟨q0, len, cap, rfl⟩ := hsl
  obtain ⟨ys, hys⟩ := open_longs (enc := enc) (base := base) (spare := spare) (held := held) (d := y12.1) (p := y12.2) ⟨n, by simpa [Value.cells] using u12⟩
  exact ⟨⟨kind, dom, seq, src, port, corr, time, tw, tp, rate, one, cls, two, id, steps, ys⟩, .slice q0 len cap, rfl, ⟨in64_of wkind, in64_of wdom, in64_of wseq, in64_of wsrc, in64_of wport, in64_of wcorr, in64_of wtime, in64_of wtw, in64_of wtp, in64_of wrate, wone, wcls, wtwo, wid, in64_of wsteps, hys.1⟩, hys⟩
end

end Go.Proofs.Ytcdcklkbjfhhnaa
