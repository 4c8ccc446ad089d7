/- Arguments that are messages, setups, rows of ints: what is read of them. -/
import Derived.Test.YtfeoppbincldfaaPrNew
import Derived.Deep.Slices
import Derived.Deep.Fields
namespace Go.Proofs.Ytfeoppbincldfaa
open Go.RowKit Go.WideShapes Go.ChangeShapes Go.ChangeAt Go.Joins Go.Deep

theorem Try.laidOut : laidOutB Try.prog = true := by kernel_rfl
theorem block_of_cell {w : World} {a : Addr} {v : Value} (h : w.cell? a = some v) : a.block < w.heap.size := by
  refine Nat.lt_of_not_le fun hh => ?_
  have e : w.heap[a.block]? = none := by simp; omega
  simp [World.cell?, e] at h

section
variable {H : Type} {enc : TypeId × Value → H} {P : Program} {w : World} {base : Nat} {spare : Nat → Bool} {held : Bool}
theorem trodAll_five {t0 t1 t2 t3 t4 : TypeId} {args : Array Value} {ds : List (DataW H)} {ps : List MemPlace} (h : DataW.TrodAll enc P w base spare held [t0, t1, t2, t3, t4] args.toList ds ps) :
    ∃ v0 v1 v2 v3 v4 d0 d1 d2 d3 d4 p0 p1 p2 p3 p4, args = #[v0, v1, v2, v3, v4] ∧ ds = [d0, d1, d2, d3, d4] ∧ ps = p0 ++ p1 ++ p2 ++ p3 ++ p4 ∧ DataW.Trod enc P w base spare held t0 v0 d0 p0 ∧ DataW.Trod enc P w base spare held t1 v1 d1 p1 ∧ DataW.Trod enc P w base spare held t2 v2 d2 p2 ∧ DataW.Trod enc P w base spare held t3 v3 d3 p3 ∧ DataW.Trod enc P w base spare held t4 v4 d4 p4 := by
  obtain ⟨v0, vs, d0, ds', p0, q, hargs, rfl, rfl, h0, hr⟩ := trodAll_cons h
  obtain ⟨v1, vs1, d1, ds1, p1, q1, rfl, rfl, rfl, h1, hr1⟩ := trodAll_cons hr
  obtain ⟨v2, vs2, d2, ds2, p2, q2, rfl, rfl, rfl, h2, hr2⟩ := trodAll_cons hr1
  obtain ⟨v3, vs3, d3, ds3, p3, q3, rfl, rfl, rfl, h3, hr3⟩ := trodAll_cons hr2
  obtain ⟨v4, vs4, d4, ds4, p4, q4, rfl, rfl, rfl, h4, hr4⟩ := trodAll_cons hr3
  obtain ⟨rfl, rfl, rfl⟩ := trodAll_nil hr4
  exact ⟨v0, v1, v2, v3, v4, d0, d1, d2, d3, d4, p0, p1, p2, p3, p4, by cases args; simp_all, rfl, by simp, h0, h1, h2, h3, h4⟩
theorem trodAll_mk5 {t0 t1 t2 t3 t4 : TypeId} {v0 v1 v2 v3 v4 : Value} {d0 d1 d2 d3 d4 : DataW H} {p0 p1 p2 p3 p4 : List MemPlace} (h0 : DataW.Trod enc P w base spare held t0 v0 d0 p0) (h1 : DataW.Trod enc P w base spare held t1 v1 d1 p1)
    (h2 : DataW.Trod enc P w base spare held t2 v2 d2 p2) (h3 : DataW.Trod enc P w base spare held t3 v3 d3 p3) (h4 : DataW.Trod enc P w base spare held t4 v4 d4 p4) : DataW.TrodAll enc P w base spare held [t0, t1, t2, t3, t4] [v0, v1, v2, v3, v4] [d0, d1, d2, d3, d4] (p0 ++ (p1 ++ (p2 ++ (p3 ++ p4)))) := ⟨p0, p1 ++ (p2 ++ (p3 ++ p4)), h0, trodAll_mk4 h1 h2 h3 h4, rfl⟩
theorem trodAll_six {t0 t1 t2 t3 t4 t5 : TypeId} {args : Array Value} {ds : List (DataW H)} {ps : List MemPlace} (h : DataW.TrodAll enc P w base spare held [t0, t1, t2, t3, t4, t5] args.toList ds ps) :
    ∃ v0 v1 v2 v3 v4 v5 d0 d1 d2 d3 d4 d5 p0 p1 p2 p3 p4 p5, args = #[v0, v1, v2, v3, v4, v5] ∧ ds = [d0, d1, d2, d3, d4, d5] ∧ ps = p0 ++ p1 ++ p2 ++ p3 ++ p4 ++ p5 ∧ DataW.Trod enc P w base spare held t0 v0 d0 p0 ∧ DataW.Trod enc P w base spare held t1 v1 d1 p1 ∧ DataW.Trod enc P w base spare held t2 v2 d2 p2 ∧ DataW.Trod enc P w base spare held t3 v3 d3 p3 ∧ DataW.Trod enc P w base spare held t4 v4 d4 p4 ∧ DataW.Trod enc P w base spare held t5 v5 d5 p5 := by
  obtain ⟨v0, vs, d0, ds', p0, q, hargs, rfl, rfl, h0, hr⟩ := trodAll_cons h
  obtain ⟨v1, vs1, d1, ds1, p1, q1, rfl, rfl, rfl, h1, hr1⟩ := trodAll_cons hr
  obtain ⟨v2, vs2, d2, ds2, p2, q2, rfl, rfl, rfl, h2, hr2⟩ := trodAll_cons hr1
  obtain ⟨v3, vs3, d3, ds3, p3, q3, rfl, rfl, rfl, h3, hr3⟩ := trodAll_cons hr2
  obtain ⟨v4, vs4, d4, ds4, p4, q4, rfl, rfl, rfl, h4, hr4⟩ := trodAll_cons hr3
  obtain ⟨v5, vs5, d5, ds5, p5, q5, rfl, rfl, rfl, h5, hr5⟩ := trodAll_cons hr4
  obtain ⟨rfl, rfl, rfl⟩ := trodAll_nil hr5
  exact ⟨v0, v1, v2, v3, v4, v5, d0, d1, d2, d3, d4, d5, p0, p1, p2, p3, p4, p5, by cases args; simp_all, rfl, by simp, h0, h1, h2, h3, h4, h5⟩
theorem trodAll_mk6 {t0 t1 t2 t3 t4 t5 : TypeId} {v0 v1 v2 v3 v4 v5 : Value} {d0 d1 d2 d3 d4 d5 : DataW H} {p0 p1 p2 p3 p4 p5 : List MemPlace} (h0 : DataW.Trod enc P w base spare held t0 v0 d0 p0) (h1 : DataW.Trod enc P w base spare held t1 v1 d1 p1)
    (h2 : DataW.Trod enc P w base spare held t2 v2 d2 p2) (h3 : DataW.Trod enc P w base spare held t3 v3 d3 p3) (h4 : DataW.Trod enc P w base spare held t4 v4 d4 p4) (h5 : DataW.Trod enc P w base spare held t5 v5 d5 p5) : DataW.TrodAll enc P w base spare held [t0, t1, t2, t3, t4, t5] [v0, v1, v2, v3, v4, v5] [d0, d1, d2, d3, d4, d5] (p0 ++ (p1 ++ (p2 ++ (p3 ++ (p4 ++ p5))))) := ⟨p0, p1 ++ (p2 ++ (p3 ++ (p4 ++ p5))), h0, trodAll_mk5 h1 h2 h3 h4 h5, rfl⟩
end
theorem Try.cellsG : Try.prog.cellsOf 37 = 16 := by kernel_rfl
theorem Try.cellsP : Try.prog.cellsOf 34 = 4 := by kernel_rfl
theorem Try.cellsI : Try.prog.cellsOf 3 = 1 := by kernel_rfl
theorem Try.cellsT : Try.prog.cellsOf 22 = 1 := by kernel_rfl
theorem Try.cellsR : Try.prog.cellsOf 32 = 1 := by kernel_rfl
theorem Try.cellsL : Try.prog.cellsOf 35 = 1 := by kernel_rfl
theorem open_longs {H : Type} {enc : TypeId × Value → H} {w : World} {base : Nat} {spare : Nat → Bool} {held : Bool} {a0 : Option Addr} {len cap : Nat} {d : DataW H} {p : List MemPlace}
    (h : DataW.Trod enc Try.prog w base spare held 35 (.slice a0 len cap) d p) : ∃ xs, LArg w (.slice a0 len cap) xs := by
  obtain ⟨fuel, hf⟩ := h
  rcases open_ints Try.underlying35 Try.underlying3 Try.cellsI hf with ⟨hcs, _⟩ | ⟨a, len', cap', zs, hcs, _, hl, _, hzl, _, hc, hw⟩
  · simp [Value.cells] at hcs
    obtain ⟨rfl, rfl, rfl⟩ := hcs
    exact ⟨[], fun x hx => by simp at hx, .inl ⟨rfl, _, _, rfl, fun _ => rfl⟩⟩
  · simp [Value.cells] at hcs
    obtain ⟨rfl, rfl, rfl⟩ := hcs
    rcases Nat.eq_zero_or_pos len with h0 | h0
    · subst h0
      exact ⟨[], fun x hx => by simp at hx, .inl ⟨rfl, _, _, rfl, fun e => by cases e⟩⟩
    have hlen : len ≤ zs.length := by rw [hzl]; split <;> omega
    obtain ⟨b, o, spot⟩ := a
    have hspot : spot = none := by simpa [Addr.add] using World.cell?_spot (hc 0 (by omega))
    subst hspot
    have hll : (zs.take len).length = len := by simp; omega
    refine ⟨zs.take len, fun x hx => ?_, .inr ⟨by omega, b, o, cap, by rw [hll], by omega, fun _ => ⟨?_, fun k hk => ?_⟩⟩⟩
    · have := bounds_i64 (hw x (List.mem_of_mem_take hx))
      exact ⟨this.1, by omega⟩
    · have := block_of_cell (hc 0 (by omega))
      simpa [block_add] using this
    · have hk' : k < len := by omega
      have := hc k (by omega)
      rw [add_plain] at this
      rw [this, List.getD_eq_getElem?_getD, List.getD_eq_getElem?_getD, List.getElem?_take, if_pos hk']

theorem array16 {cs : Array Value} (h : cs.size = 16) : ∃ c0 c1 c2 c3 c4 c5 c6 c7 c8 c9 c10 c11 c12 c13 c14 c15, cs = #[c0, c1, c2, c3, c4, c5, c6, c7, c8, c9, c10, c11, c12, c13, c14, c15] := by
  obtain ⟨l⟩ := cs
  have hl : l.length = 16 := h
  match l, hl with
  | [c0, c1, c2, c3, c4, c5, c6, c7, c8, c9, c10, c11, c12, c13, c14, c15], _ => exact ⟨c0, c1, c2, c3, c4, c5, c6, c7, c8, c9, c10, c11, c12, c13, c14, c15, rfl⟩
theorem array4 {l : List Value} (h : l.length = 4) : ∃ a b c d, l = [a, b, c, d] := by
  match l, h with
  | [a, b, c, d], _ => exact ⟨a, b, c, d, rfl⟩
theorem in64_of {x : Int} (h : (Lit.int .i64 x).wf = true) : In64 x := by
  have := bounds_i64 h
  unfold In64; omega

section
variable {H : Type} {enc : TypeId × Value → H} {w : World} {base : Nat} {spare : Nat → Bool} {held : Bool}
theorem open_prior {n : Nat} {a b c d : Value} {x : DataW H × List MemPlace} (h : DataW.trod enc Try.prog w base spare held n 34 [a, b, c, d] = some x) :
    ∃ y0 y1 y2 y3 : Int, a = .int .i64 y0 ∧ b = .int .i64 y1 ∧ c = .int .i64 y2 ∧ d = .int .i64 y3 ∧ In64 y0 ∧ In64 y1 ∧ In64 y2 ∧ In64 y3 := by
  obtain ⟨xs, m, _, _, _, hl, hall⟩ := DataW.trod_struct Try.underlying34 h
  have hx : ∀ i, i < 4 → ∃ y, xs[i]? = some y := fun i hi => ⟨xs[i]'(by rw [hl]; exact hi), List.getElem?_eq_getElem _⟩
  obtain ⟨y0, hy0⟩ := hx 0 (by omega)
  have t0 := hall 0 _ rfl
  rw [hy0] at t0
  have u0 : DataW.trod enc Try.prog w base spare held m 3 [a] = some y0 := by
    have e : DataW.trod enc Try.prog w base spare held m 3 ((List.drop 0 [a, b, c, d]).take (Try.prog.cellsOf 3)) = some y0 := t0
    rw [Try.cellsI] at e
    exact e
  clear t0
  obtain ⟨z0, e0, _, w0⟩ := DataW.trod_int Try.underlying3 u0
  injection e0 with e0
  obtain ⟨y1, hy1⟩ := hx 1 (by omega)
  have t1 := hall 1 _ rfl
  rw [hy1] at t1
  have u1 : DataW.trod enc Try.prog w base spare held m 3 [b] = some y1 := by
    have e : DataW.trod enc Try.prog w base spare held m 3 ((List.drop 1 [a, b, c, d]).take (Try.prog.cellsOf 3)) = some y1 := t1
    rw [Try.cellsI] at e
    exact e
  clear t1
  obtain ⟨z1, e1, _, w1⟩ := DataW.trod_int Try.underlying3 u1
  injection e1 with e1
  obtain ⟨y2, hy2⟩ := hx 2 (by omega)
  have t2 := hall 2 _ rfl
  rw [hy2] at t2
  have u2 : DataW.trod enc Try.prog w base spare held m 3 [c] = some y2 := by
    have e : DataW.trod enc Try.prog w base spare held m 3 ((List.drop 2 [a, b, c, d]).take (Try.prog.cellsOf 3)) = some y2 := t2
    rw [Try.cellsI] at e
    exact e
  clear t2
  obtain ⟨z2, e2, _, w2⟩ := DataW.trod_int Try.underlying3 u2
  injection e2 with e2
  obtain ⟨y3, hy3⟩ := hx 3 (by omega)
  have t3 := hall 3 _ rfl
  rw [hy3] at t3
  have u3 : DataW.trod enc Try.prog w base spare held m 3 [d] = some y3 := by
    have e : DataW.trod enc Try.prog w base spare held m 3 ((List.drop 3 [a, b, c, d]).take (Try.prog.cellsOf 3)) = some y3 := t3
    rw [Try.cellsI] at e
    exact e
  clear t3
  obtain ⟨z3, e3, _, w3⟩ := DataW.trod_int Try.underlying3 u3
  injection e3 with e3
  exact ⟨z0, z1, z2, z3, e0, e1, e2, e3, in64_of w0, in64_of w1, in64_of w2, in64_of w3⟩

set_option maxRecDepth 100000 in
theorem open_msg {r : Reach} {b0 : Nat} {v : Value} {d : DataW H} {p : List MemPlace} (hv : Value.okWide Try.prog w r b0 37 v) (h : DataW.Trod enc Try.prog w base spare held 37 v d p) :
    ∃ (m : Mg) (u : Value), v = MV m u ∧ m.Wf ∧ LArg w u m.path := by
  have hrow : ∃ cs, v = .agg cs ∧ cs.size = Try.prog.cellsOf 37 ∧ Row.okWide Try.prog w r b0 37 cs := by
    simp only [Value.okWide, Try.underlying37] at hv
    exact hv
  obtain ⟨cs, rfl, hsz, hcells⟩ := hrow
  obtain ⟨c0, c1, c2, c3, c4, c5, c6, c7, c8, c9, c10, c11, c12, c13, c14, c15, rfl⟩ := array16 (hsz.trans Try.cellsG)
  obtain ⟨fuel, hf⟩ := h
  obtain ⟨xs, n, _, _, _, hl, hall⟩ := DataW.trod_struct Try.underlying37 hf
  have hx : ∀ i, i < 13 → ∃ y, xs[i]? = some y := fun i hi => ⟨xs[i]'(by rw [hl]; exact hi), List.getElem?_eq_getElem _⟩
  obtain ⟨y0, hy0⟩ := hx 0 (by omega)
  have t0 := hall 0 _ rfl
  rw [hy0] at t0
  have u0 : DataW.trod enc Try.prog w base spare held n 3 [c0] = some y0 := by
    have e : DataW.trod enc Try.prog w base spare held n 3 ((List.drop 0 [c0, c1, c2, c3, c4, c5, c6, c7, c8, c9, c10, c11, c12, c13, c14, c15]).take (Try.prog.cellsOf 3)) = some y0 := t0
    rw [Try.cellsI] at e
    exact e
  clear t0
  obtain ⟨y1, hy1⟩ := hx 1 (by omega)
  have t1 := hall 1 _ rfl
  rw [hy1] at t1
  have u1 : DataW.trod enc Try.prog w base spare held n 3 [c1] = some y1 := by
    have e : DataW.trod enc Try.prog w base spare held n 3 ((List.drop 1 [c0, c1, c2, c3, c4, c5, c6, c7, c8, c9, c10, c11, c12, c13, c14, c15]).take (Try.prog.cellsOf 3)) = some y1 := t1
    rw [Try.cellsI] at e
    exact e
  clear t1
  obtain ⟨y2, hy2⟩ := hx 2 (by omega)
  have t2 := hall 2 _ rfl
  rw [hy2] at t2
  have u2 : DataW.trod enc Try.prog w base spare held n 3 [c2] = some y2 := by
    have e : DataW.trod enc Try.prog w base spare held n 3 ((List.drop 2 [c0, c1, c2, c3, c4, c5, c6, c7, c8, c9, c10, c11, c12, c13, c14, c15]).take (Try.prog.cellsOf 3)) = some y2 := t2
    rw [Try.cellsI] at e
    exact e
  clear t2
  obtain ⟨y3, hy3⟩ := hx 3 (by omega)
  have t3 := hall 3 _ rfl
  rw [hy3] at t3
  have u3 : DataW.trod enc Try.prog w base spare held n 3 [c3] = some y3 := by
    have e : DataW.trod enc Try.prog w base spare held n 3 ((List.drop 3 [c0, c1, c2, c3, c4, c5, c6, c7, c8, c9, c10, c11, c12, c13, c14, c15]).take (Try.prog.cellsOf 3)) = some y3 := t3
    rw [Try.cellsI] at e
    exact e
  clear t3
  obtain ⟨y4, hy4⟩ := hx 4 (by omega)
  have t4 := hall 4 _ rfl
  rw [hy4] at t4
  have u4 : DataW.trod enc Try.prog w base spare held n 3 [c4] = some y4 := by
    have e : DataW.trod enc Try.prog w base spare held n 3 ((List.drop 4 [c0, c1, c2, c3, c4, c5, c6, c7, c8, c9, c10, c11, c12, c13, c14, c15]).take (Try.prog.cellsOf 3)) = some y4 := t4
    rw [Try.cellsI] at e
    exact e
  clear t4
  obtain ⟨y5, hy5⟩ := hx 5 (by omega)
  have t5 := hall 5 _ rfl
  rw [hy5] at t5
  have u5 : DataW.trod enc Try.prog w base spare held n 22 [c5] = some y5 := by
    have e : DataW.trod enc Try.prog w base spare held n 22 ((List.drop 5 [c0, c1, c2, c3, c4, c5, c6, c7, c8, c9, c10, c11, c12, c13, c14, c15]).take (Try.prog.cellsOf 22)) = some y5 := t5
    rw [Try.cellsT] at e
    exact e
  clear t5
  obtain ⟨y6, hy6⟩ := hx 6 (by omega)
  have t6 := hall 6 _ rfl
  rw [hy6] at t6
  have u6 : DataW.trod enc Try.prog w base spare held n 22 [c6] = some y6 := by
    have e : DataW.trod enc Try.prog w base spare held n 22 ((List.drop 6 [c0, c1, c2, c3, c4, c5, c6, c7, c8, c9, c10, c11, c12, c13, c14, c15]).take (Try.prog.cellsOf 22)) = some y6 := t6
    rw [Try.cellsT] at e
    exact e
  clear t6
  obtain ⟨y7, hy7⟩ := hx 7 (by omega)
  have t7 := hall 7 _ rfl
  rw [hy7] at t7
  have u7 : DataW.trod enc Try.prog w base spare held n 3 [c7] = some y7 := by
    have e : DataW.trod enc Try.prog w base spare held n 3 ((List.drop 7 [c0, c1, c2, c3, c4, c5, c6, c7, c8, c9, c10, c11, c12, c13, c14, c15]).take (Try.prog.cellsOf 3)) = some y7 := t7
    rw [Try.cellsI] at e
    exact e
  clear t7
  obtain ⟨y8, hy8⟩ := hx 8 (by omega)
  have t8 := hall 8 _ rfl
  rw [hy8] at t8
  have u8 : DataW.trod enc Try.prog w base spare held n 3 [c8] = some y8 := by
    have e : DataW.trod enc Try.prog w base spare held n 3 ((List.drop 8 [c0, c1, c2, c3, c4, c5, c6, c7, c8, c9, c10, c11, c12, c13, c14, c15]).take (Try.prog.cellsOf 3)) = some y8 := t8
    rw [Try.cellsI] at e
    exact e
  clear t8
  obtain ⟨y9, hy9⟩ := hx 9 (by omega)
  have t9 := hall 9 _ rfl
  rw [hy9] at t9
  have u9 : DataW.trod enc Try.prog w base spare held n 32 [c9] = some y9 := by
    have e : DataW.trod enc Try.prog w base spare held n 32 ((List.drop 9 [c0, c1, c2, c3, c4, c5, c6, c7, c8, c9, c10, c11, c12, c13, c14, c15]).take (Try.prog.cellsOf 32)) = some y9 := t9
    rw [Try.cellsR] at e
    exact e
  clear t9
  obtain ⟨y10, hy10⟩ := hx 10 (by omega)
  have t10 := hall 10 _ rfl
  rw [hy10] at t10
  have u10 : DataW.trod enc Try.prog w base spare held n 34 [c10, c11, c12, c13] = some y10 := by
    have e : DataW.trod enc Try.prog w base spare held n 34 ((List.drop 10 [c0, c1, c2, c3, c4, c5, c6, c7, c8, c9, c10, c11, c12, c13, c14, c15]).take (Try.prog.cellsOf 34)) = some y10 := t10
    rw [Try.cellsP] at e
    exact e
  clear t10
  obtain ⟨y11, hy11⟩ := hx 11 (by omega)
  have t11 := hall 11 _ rfl
  rw [hy11] at t11
  have u11 : DataW.trod enc Try.prog w base spare held n 3 [c14] = some y11 := by
    have e : DataW.trod enc Try.prog w base spare held n 3 ((List.drop 14 [c0, c1, c2, c3, c4, c5, c6, c7, c8, c9, c10, c11, c12, c13, c14, c15]).take (Try.prog.cellsOf 3)) = some y11 := t11
    rw [Try.cellsI] at e
    exact e
  clear t11
  obtain ⟨y12, hy12⟩ := hx 12 (by omega)
  have t12 := hall 12 _ rfl
  rw [hy12] at t12
  have u12 : DataW.trod enc Try.prog w base spare held n 35 [c15] = some y12 := by
    have e : DataW.trod enc Try.prog w base spare held n 35 ((List.drop 15 [c0, c1, c2, c3, c4, c5, c6, c7, c8, c9, c10, c11, c12, c13, c14, c15]).take (Try.prog.cellsOf 35)) = some y12 := t12
    rw [Try.cellsL] at e
    exact e
  clear t12
  obtain ⟨kind, e0, _, wkind⟩ := DataW.trod_int Try.underlying3 u0
  injection e0 with e0
  subst e0
  obtain ⟨dom, e1, _, wdom⟩ := DataW.trod_int Try.underlying3 u1
  injection e1 with e1
  subst e1
  obtain ⟨seq, e2, _, wseq⟩ := DataW.trod_int Try.underlying3 u2
  injection e2 with e2
  subst e2
  obtain ⟨src, e3, _, wsrc⟩ := DataW.trod_int Try.underlying3 u3
  injection e3 with e3
  subst e3
  obtain ⟨port, e4, _, wport⟩ := DataW.trod_int Try.underlying3 u4
  injection e4 with e4
  subst e4
  obtain ⟨corr, e5, _, wcorr⟩ := DataW.trod_int Try.underlying22 u5
  injection e5 with e5
  subst e5
  obtain ⟨time, e6, _, wtime⟩ := DataW.trod_int Try.underlying22 u6
  injection e6 with e6
  subst e6
  obtain ⟨tw, e7, _, wtw⟩ := DataW.trod_int Try.underlying3 u7
  injection e7 with e7
  subst e7
  obtain ⟨tp, e8, _, wtp⟩ := DataW.trod_int Try.underlying3 u8
  injection e8 with e8
  subst e8
  obtain ⟨rate, e9, _, wrate⟩ := DataW.trod_int Try.underlying32 u9
  injection e9 with e9
  subst e9
  obtain ⟨steps, e11, _, wsteps⟩ := DataW.trod_int Try.underlying3 u11
  injection e11 with e11
  subst e11
  obtain ⟨one, cls, two, id, rfl, rfl, rfl, rfl, wone, wcls, wtwo, wid⟩ := open_prior u10
  have hsl : ∃ a0 len cap, c15 = .slice a0 len cap := by
    rcases DataW.trod_slice Try.underlying35 u12 with ⟨e, _⟩ | ⟨a, len, cap, _, _, _, _, e, _⟩
    · injection e with e; exact ⟨none, 0, 0, e⟩
    · injection e with e; exact ⟨some a, len, cap, e⟩
  obtain ⟨q0, len, cap, rfl⟩ := hsl
  obtain ⟨ys, hys⟩ := open_longs (enc := enc) (base := base) (spare := spare) (held := held) (d := y12.1) (p := y12.2) ⟨n, by simpa [Value.cells] using u12⟩
  exact ⟨⟨kind, dom, seq, src, port, corr, time, tw, tp, rate, one, cls, two, id, steps, ys⟩, .slice q0 len cap, rfl, ⟨in64_of wkind, in64_of wdom, in64_of wseq, in64_of wsrc, in64_of wport, in64_of wcorr, in64_of wtime, in64_of wtw, in64_of wtp, in64_of wrate, wone, wcls, wtwo, wid, in64_of wsteps, hys.1⟩, hys⟩
end

theorem in_of_wf {n : Int} (h : (Lit.int .i64 n).wf = true) : In64 n := in64_of h
theorem Try.cellsS : Try.prog.cellsOf 51 = 22 := by kernel_rfl
theorem Try.cellsB : Try.prog.cellsOf 4 = 1 := by kernel_rfl
theorem add_flat (b o i : Nat) : (⟨b, o, none⟩ : Addr).add i = ⟨b, o + i, none⟩ := add_plain b o i
structure MU where
  m : Mg
  a : Option Addr
  n : Nat
  c : Nat
def MU.u (x : MU) : Value := .slice x.a x.n x.c
structure MU.Ok (w : World) (x : MU) : Prop where
  wf : x.m.Wf
  arg : LArg w x.u x.m.path
/-- A step in plain numbers. -/
structure Stp where
  k : Int
  mu : MU
  at_ : Int
  r : Int
  d : Int
  on : Bool
  n : Int
def StC (s : Stp) : Array Value := #[.int .i64 s.k, .int .i64 s.mu.m.kind, .int .i64 s.mu.m.dom, .int .i64 s.mu.m.seq, .int .i64 s.mu.m.src, .int .i64 s.mu.m.port, .int .i64 s.mu.m.corr, .int .i64 s.mu.m.time, .int .i64 s.mu.m.tw, .int .i64 s.mu.m.tp, .int .i64 s.mu.m.rate, .int .i64 s.mu.m.one, .int .i64 s.mu.m.cls, .int .i64 s.mu.m.two, .int .i64 s.mu.m.id, .int .i64 s.mu.m.steps, s.mu.u, .int .i64 s.at_, .int .i64 s.r, .int .i64 s.d, .bool s.on, .int .i64 s.n]
structure Stp.Ok (w : World) (s : Stp) : Prop where
  k : In64 s.k
  mu : s.mu.Ok w
  at_ : In64 s.at_
  r : In64 s.r
  d : In64 s.d
  n : In64 s.n
/-- The value's elements are these steps. -/
def TArg (w : World) (v : Value) (n : Nat) : Prop :=
  (n = 0 ∧ ∃ a c, v = .slice a 0 c) ∨ (0 < n ∧ ∃ b o c, ∃ F : Nat → Stp, v = .slice (some ⟨b, o, none⟩) n c ∧ b < w.heap.size ∧ ∀ k, k < n → (F k).Ok w ∧ ∀ j x, (StC (F k)).toList[j]? = some x → w.cell? ⟨b, o + k * 22 + j, none⟩ = some x)
theorem TArg.slice {n : Nat} {w : World} {v : Value} (h : TArg w v n) : ∃ p c, v = .slice p n c := by
  rcases h with ⟨rfl, p, c, rfl⟩ | ⟨_, b, o, c, F, rfl, _⟩
  · exact ⟨p, c, rfl⟩
  · exact ⟨_, c, rfl⟩
theorem TArg.at {n c : Nat} {w : World} {p : Option Addr} (h : TArg w (.slice p n c) n) (h0 : 0 < n) : ∃ b o, ∃ F : Nat → Stp, p = some ⟨b, o, none⟩ ∧ b < w.heap.size ∧ ∀ k, k < n → (F k).Ok w ∧ ∀ j x, (StC (F k)).toList[j]? = some x → w.cell? ⟨b, o + k * 22 + j, none⟩ = some x := by
  rcases h with ⟨e, _⟩ | ⟨_, b, o, c', F, e, h1, h2⟩
  · omega
  · injection e with e1 e2 e3
    exact ⟨b, o, F, e1, h1, h2⟩
theorem array22L {l : List Value} (h : l.length = 22) : ∃ c0 c1 c2 c3 c4 c5 c6 c7 c8 c9 c10 c11 c12 c13 c14 c15 c16 c17 c18 c19 c20 c21, l = [c0, c1, c2, c3, c4, c5, c6, c7, c8, c9, c10, c11, c12, c13, c14, c15, c16, c17, c18, c19, c20, c21] := by
  match l, h with
  | [c0, c1, c2, c3, c4, c5, c6, c7, c8, c9, c10, c11, c12, c13, c14, c15, c16, c17, c18, c19, c20, c21], _ => exact ⟨c0, c1, c2, c3, c4, c5, c6, c7, c8, c9, c10, c11, c12, c13, c14, c15, c16, c17, c18, c19, c20, c21, rfl⟩
section
variable {H : Type} {enc : TypeId × Value → H} {w : World} {base : Nat} {spare : Nat → Bool} {held : Bool}
set_option maxRecDepth 100000 in
set_option maxHeartbeats 2000000 in
theorem rd_msg {fuel : Nat} {c0 c1 c2 c3 c4 c5 c6 c7 c8 c9 c10 c11 c12 c13 c14 c15 : Value} {x : DataW H × List MemPlace} (h : DataW.trod enc Try.prog w base spare held fuel 37 [c0, c1, c2, c3, c4, c5, c6, c7, c8, c9, c10, c11, c12, c13, c14, c15] = some x) :
    ∃ s : MU, s.Ok w ∧ [c0, c1, c2, c3, c4, c5, c6, c7, c8, c9, c10, c11, c12, c13, c14, c15] = (MC s.m s.u).toList := by
  obtain ⟨xs, n, _, _, _, hl, hall⟩ := DataW.trod_struct Try.underlying37 h
  have hx : ∀ i, i < 13 → ∃ y, xs[i]? = some y := fun i hi => ⟨xs[i]'(by rw [hl]; exact hi), List.getElem?_eq_getElem _⟩
  obtain ⟨y0, hy0⟩ := hx 0 (by omega)
  have t0 := hall 0 _ rfl
  rw [hy0] at t0
  have u0 : DataW.trod enc Try.prog w base spare held n 3 [c0] = some y0 := by
    have e : DataW.trod enc Try.prog w base spare held n 3 ((List.drop 0 [c0, c1, c2, c3, c4, c5, c6, c7, c8, c9, c10, c11, c12, c13, c14, c15]).take (Try.prog.cellsOf 3)) = some y0 := t0
    rw [Try.cellsI] at e
    exact e
  clear t0
  obtain ⟨y1, hy1⟩ := hx 1 (by omega)
  have t1 := hall 1 _ rfl
  rw [hy1] at t1
  have u1 : DataW.trod enc Try.prog w base spare held n 3 [c1] = some y1 := by
    have e : DataW.trod enc Try.prog w base spare held n 3 ((List.drop 1 [c0, c1, c2, c3, c4, c5, c6, c7, c8, c9, c10, c11, c12, c13, c14, c15]).take (Try.prog.cellsOf 3)) = some y1 := t1
    rw [Try.cellsI] at e
    exact e
  clear t1
  obtain ⟨y2, hy2⟩ := hx 2 (by omega)
  have t2 := hall 2 _ rfl
  rw [hy2] at t2
  have u2 : DataW.trod enc Try.prog w base spare held n 3 [c2] = some y2 := by
    have e : DataW.trod enc Try.prog w base spare held n 3 ((List.drop 2 [c0, c1, c2, c3, c4, c5, c6, c7, c8, c9, c10, c11, c12, c13, c14, c15]).take (Try.prog.cellsOf 3)) = some y2 := t2
    rw [Try.cellsI] at e
    exact e
  clear t2
  obtain ⟨y3, hy3⟩ := hx 3 (by omega)
  have t3 := hall 3 _ rfl
  rw [hy3] at t3
  have u3 : DataW.trod enc Try.prog w base spare held n 3 [c3] = some y3 := by
    have e : DataW.trod enc Try.prog w base spare held n 3 ((List.drop 3 [c0, c1, c2, c3, c4, c5, c6, c7, c8, c9, c10, c11, c12, c13, c14, c15]).take (Try.prog.cellsOf 3)) = some y3 := t3
    rw [Try.cellsI] at e
    exact e
  clear t3
  obtain ⟨y4, hy4⟩ := hx 4 (by omega)
  have t4 := hall 4 _ rfl
  rw [hy4] at t4
  have u4 : DataW.trod enc Try.prog w base spare held n 3 [c4] = some y4 := by
    have e : DataW.trod enc Try.prog w base spare held n 3 ((List.drop 4 [c0, c1, c2, c3, c4, c5, c6, c7, c8, c9, c10, c11, c12, c13, c14, c15]).take (Try.prog.cellsOf 3)) = some y4 := t4
    rw [Try.cellsI] at e
    exact e
  clear t4
  obtain ⟨y5, hy5⟩ := hx 5 (by omega)
  have t5 := hall 5 _ rfl
  rw [hy5] at t5
  have u5 : DataW.trod enc Try.prog w base spare held n 22 [c5] = some y5 := by
    have e : DataW.trod enc Try.prog w base spare held n 22 ((List.drop 5 [c0, c1, c2, c3, c4, c5, c6, c7, c8, c9, c10, c11, c12, c13, c14, c15]).take (Try.prog.cellsOf 22)) = some y5 := t5
    rw [Try.cellsT] at e
    exact e
  clear t5
  obtain ⟨y6, hy6⟩ := hx 6 (by omega)
  have t6 := hall 6 _ rfl
  rw [hy6] at t6
  have u6 : DataW.trod enc Try.prog w base spare held n 22 [c6] = some y6 := by
    have e : DataW.trod enc Try.prog w base spare held n 22 ((List.drop 6 [c0, c1, c2, c3, c4, c5, c6, c7, c8, c9, c10, c11, c12, c13, c14, c15]).take (Try.prog.cellsOf 22)) = some y6 := t6
    rw [Try.cellsT] at e
    exact e
  clear t6
  obtain ⟨y7, hy7⟩ := hx 7 (by omega)
  have t7 := hall 7 _ rfl
  rw [hy7] at t7
  have u7 : DataW.trod enc Try.prog w base spare held n 3 [c7] = some y7 := by
    have e : DataW.trod enc Try.prog w base spare held n 3 ((List.drop 7 [c0, c1, c2, c3, c4, c5, c6, c7, c8, c9, c10, c11, c12, c13, c14, c15]).take (Try.prog.cellsOf 3)) = some y7 := t7
    rw [Try.cellsI] at e
    exact e
  clear t7
  obtain ⟨y8, hy8⟩ := hx 8 (by omega)
  have t8 := hall 8 _ rfl
  rw [hy8] at t8
  have u8 : DataW.trod enc Try.prog w base spare held n 3 [c8] = some y8 := by
    have e : DataW.trod enc Try.prog w base spare held n 3 ((List.drop 8 [c0, c1, c2, c3, c4, c5, c6, c7, c8, c9, c10, c11, c12, c13, c14, c15]).take (Try.prog.cellsOf 3)) = some y8 := t8
    rw [Try.cellsI] at e
    exact e
  clear t8
  obtain ⟨y9, hy9⟩ := hx 9 (by omega)
  have t9 := hall 9 _ rfl
  rw [hy9] at t9
  have u9 : DataW.trod enc Try.prog w base spare held n 32 [c9] = some y9 := by
    have e : DataW.trod enc Try.prog w base spare held n 32 ((List.drop 9 [c0, c1, c2, c3, c4, c5, c6, c7, c8, c9, c10, c11, c12, c13, c14, c15]).take (Try.prog.cellsOf 32)) = some y9 := t9
    rw [Try.cellsR] at e
    exact e
  clear t9
  obtain ⟨y10, hy10⟩ := hx 10 (by omega)
  have t10 := hall 10 _ rfl
  rw [hy10] at t10
  have u10 : DataW.trod enc Try.prog w base spare held n 34 [c10, c11, c12, c13] = some y10 := by
    have e : DataW.trod enc Try.prog w base spare held n 34 ((List.drop 10 [c0, c1, c2, c3, c4, c5, c6, c7, c8, c9, c10, c11, c12, c13, c14, c15]).take (Try.prog.cellsOf 34)) = some y10 := t10
    rw [Try.cellsP] at e
    exact e
  clear t10
  obtain ⟨y11, hy11⟩ := hx 11 (by omega)
  have t11 := hall 11 _ rfl
  rw [hy11] at t11
  have u11 : DataW.trod enc Try.prog w base spare held n 3 [c14] = some y11 := by
    have e : DataW.trod enc Try.prog w base spare held n 3 ((List.drop 14 [c0, c1, c2, c3, c4, c5, c6, c7, c8, c9, c10, c11, c12, c13, c14, c15]).take (Try.prog.cellsOf 3)) = some y11 := t11
    rw [Try.cellsI] at e
    exact e
  clear t11
  obtain ⟨y12, hy12⟩ := hx 12 (by omega)
  have t12 := hall 12 _ rfl
  rw [hy12] at t12
  have u12 : DataW.trod enc Try.prog w base spare held n 35 [c15] = some y12 := by
    have e : DataW.trod enc Try.prog w base spare held n 35 ((List.drop 15 [c0, c1, c2, c3, c4, c5, c6, c7, c8, c9, c10, c11, c12, c13, c14, c15]).take (Try.prog.cellsOf 35)) = some y12 := t12
    rw [Try.cellsL] at e
    exact e
  clear t12
  obtain ⟨kind, e0, _, wkind⟩ := DataW.trod_int Try.underlying3 u0
  injection e0 with e0
  subst e0
  obtain ⟨dom, e1, _, wdom⟩ := DataW.trod_int Try.underlying3 u1
  injection e1 with e1
  subst e1
  obtain ⟨seq, e2, _, wseq⟩ := DataW.trod_int Try.underlying3 u2
  injection e2 with e2
  subst e2
  obtain ⟨src, e3, _, wsrc⟩ := DataW.trod_int Try.underlying3 u3
  injection e3 with e3
  subst e3
  obtain ⟨port, e4, _, wport⟩ := DataW.trod_int Try.underlying3 u4
  injection e4 with e4
  subst e4
  obtain ⟨corr, e5, _, wcorr⟩ := DataW.trod_int Try.underlying22 u5
  injection e5 with e5
  subst e5
  obtain ⟨time, e6, _, wtime⟩ := DataW.trod_int Try.underlying22 u6
  injection e6 with e6
  subst e6
  obtain ⟨tw, e7, _, wtw⟩ := DataW.trod_int Try.underlying3 u7
  injection e7 with e7
  subst e7
  obtain ⟨tp, e8, _, wtp⟩ := DataW.trod_int Try.underlying3 u8
  injection e8 with e8
  subst e8
  obtain ⟨rate, e9, _, wrate⟩ := DataW.trod_int Try.underlying32 u9
  injection e9 with e9
  subst e9
  obtain ⟨steps, e11, _, wsteps⟩ := DataW.trod_int Try.underlying3 u11
  injection e11 with e11
  subst e11
  obtain ⟨one, cls, two, id, rfl, rfl, rfl, rfl, wone, wcls, wtwo, wid⟩ := open_prior u10
  have hsl : ∃ a0 len cap, c15 = .slice a0 len cap := by
    rcases DataW.trod_slice Try.underlying35 u12 with ⟨e, _⟩ | ⟨a, len, cap, _, _, _, _, e, _⟩
    · injection e with e; exact ⟨none, 0, 0, e⟩
    · injection e with e; exact ⟨some a, len, cap, e⟩
  obtain ⟨q0, len, cap, rfl⟩ := hsl
  obtain ⟨ys, hys⟩ := open_longs (enc := enc) (base := base) (spare := spare) (held := held) (d := y12.1) (p := y12.2) ⟨n, by simpa [Value.cells] using u12⟩
  exact ⟨⟨⟨kind, dom, seq, src, port, corr, time, tw, tp, rate, one, cls, two, id, steps, ys⟩, q0, len, cap⟩, ⟨⟨in64_of wkind, in64_of wdom, in64_of wseq, in64_of wsrc, in64_of wport, in64_of wcorr, in64_of wtime, in64_of wtw, in64_of wtp, in64_of wrate, wone, wcls, wtwo, wid, in64_of wsteps, hys.1⟩, hys⟩, rfl⟩
set_option maxRecDepth 100000 in
set_option maxHeartbeats 2000000 in
theorem rd_step {fuel : Nat} {c0 c1 c2 c3 c4 c5 c6 c7 c8 c9 c10 c11 c12 c13 c14 c15 c16 c17 c18 c19 c20 c21 : Value} {x : DataW H × List MemPlace} (h : DataW.trod enc Try.prog w base spare held fuel 51 [c0, c1, c2, c3, c4, c5, c6, c7, c8, c9, c10, c11, c12, c13, c14, c15, c16, c17, c18, c19, c20, c21] = some x) :
    ∃ s : Stp, s.Ok w ∧ [c0, c1, c2, c3, c4, c5, c6, c7, c8, c9, c10, c11, c12, c13, c14, c15, c16, c17, c18, c19, c20, c21] = (StC s).toList := by
  obtain ⟨xs, n, _, _, _, hl, hall⟩ := DataW.trod_struct Try.underlying51 h
  have hx : ∀ i, i < 7 → ∃ y, xs[i]? = some y := fun i hi => ⟨xs[i]'(by rw [hl]; exact hi), List.getElem?_eq_getElem _⟩
  obtain ⟨y0, hy0⟩ := hx 0 (by omega)
  have t0 := hall 0 _ rfl
  rw [hy0] at t0
  have u0 : DataW.trod enc Try.prog w base spare held n 3 [c0] = some y0 := by
    have e : DataW.trod enc Try.prog w base spare held n 3 ((List.drop 0 [c0, c1, c2, c3, c4, c5, c6, c7, c8, c9, c10, c11, c12, c13, c14, c15, c16, c17, c18, c19, c20, c21]).take (Try.prog.cellsOf 3)) = some y0 := t0
    rw [Try.cellsI] at e
    exact e
  clear t0
  obtain ⟨y1, hy1⟩ := hx 1 (by omega)
  have t1 := hall 1 _ rfl
  rw [hy1] at t1
  have u1 : DataW.trod enc Try.prog w base spare held n 37 [c1, c2, c3, c4, c5, c6, c7, c8, c9, c10, c11, c12, c13, c14, c15, c16] = some y1 := by
    have e : DataW.trod enc Try.prog w base spare held n 37 ((List.drop 1 [c0, c1, c2, c3, c4, c5, c6, c7, c8, c9, c10, c11, c12, c13, c14, c15, c16, c17, c18, c19, c20, c21]).take (Try.prog.cellsOf 37)) = some y1 := t1
    rw [Try.cellsG] at e
    exact e
  clear t1
  obtain ⟨y2, hy2⟩ := hx 2 (by omega)
  have t2 := hall 2 _ rfl
  rw [hy2] at t2
  have u2 : DataW.trod enc Try.prog w base spare held n 22 [c17] = some y2 := by
    have e : DataW.trod enc Try.prog w base spare held n 22 ((List.drop 17 [c0, c1, c2, c3, c4, c5, c6, c7, c8, c9, c10, c11, c12, c13, c14, c15, c16, c17, c18, c19, c20, c21]).take (Try.prog.cellsOf 22)) = some y2 := t2
    rw [Try.cellsT] at e
    exact e
  clear t2
  obtain ⟨y3, hy3⟩ := hx 3 (by omega)
  have t3 := hall 3 _ rfl
  rw [hy3] at t3
  have u3 : DataW.trod enc Try.prog w base spare held n 32 [c18] = some y3 := by
    have e : DataW.trod enc Try.prog w base spare held n 32 ((List.drop 18 [c0, c1, c2, c3, c4, c5, c6, c7, c8, c9, c10, c11, c12, c13, c14, c15, c16, c17, c18, c19, c20, c21]).take (Try.prog.cellsOf 32)) = some y3 := t3
    rw [Try.cellsR] at e
    exact e
  clear t3
  obtain ⟨y4, hy4⟩ := hx 4 (by omega)
  have t4 := hall 4 _ rfl
  rw [hy4] at t4
  have u4 : DataW.trod enc Try.prog w base spare held n 3 [c19] = some y4 := by
    have e : DataW.trod enc Try.prog w base spare held n 3 ((List.drop 19 [c0, c1, c2, c3, c4, c5, c6, c7, c8, c9, c10, c11, c12, c13, c14, c15, c16, c17, c18, c19, c20, c21]).take (Try.prog.cellsOf 3)) = some y4 := t4
    rw [Try.cellsI] at e
    exact e
  clear t4
  obtain ⟨y5, hy5⟩ := hx 5 (by omega)
  have t5 := hall 5 _ rfl
  rw [hy5] at t5
  have u5 : DataW.trod enc Try.prog w base spare held n 4 [c20] = some y5 := by
    have e : DataW.trod enc Try.prog w base spare held n 4 ((List.drop 20 [c0, c1, c2, c3, c4, c5, c6, c7, c8, c9, c10, c11, c12, c13, c14, c15, c16, c17, c18, c19, c20, c21]).take (Try.prog.cellsOf 4)) = some y5 := t5
    rw [Try.cellsB] at e
    exact e
  clear t5
  obtain ⟨y6, hy6⟩ := hx 6 (by omega)
  have t6 := hall 6 _ rfl
  rw [hy6] at t6
  have u6 : DataW.trod enc Try.prog w base spare held n 3 [c21] = some y6 := by
    have e : DataW.trod enc Try.prog w base spare held n 3 ((List.drop 21 [c0, c1, c2, c3, c4, c5, c6, c7, c8, c9, c10, c11, c12, c13, c14, c15, c16, c17, c18, c19, c20, c21]).take (Try.prog.cellsOf 3)) = some y6 := t6
    rw [Try.cellsI] at e
    exact e
  clear t6
  obtain ⟨k, e0, _, w0⟩ := DataW.trod_int Try.underlying3 u0
  injection e0 with e0
  subst e0
  obtain ⟨a, e2, _, w2⟩ := DataW.trod_int Try.underlying22 u2
  injection e2 with e2
  subst e2
  obtain ⟨r, e3, _, w3⟩ := DataW.trod_int Try.underlying32 u3
  injection e3 with e3
  subst e3
  obtain ⟨d, e4, _, w4⟩ := DataW.trod_int Try.underlying3 u4
  injection e4 with e4
  subst e4
  obtain ⟨m, e6, _, w6⟩ := DataW.trod_int Try.underlying3 u6
  injection e6 with e6
  subst e6
  obtain ⟨s, hs, he⟩ := rd_msg u1
  obtain ⟨on, e5, _⟩ := DataW.trod_bool Try.underlying4 u5
  injection e5 with e5
  subst e5
  refine ⟨⟨k, s, a, r, d, on, m⟩, ⟨in64_of w0, hs, in64_of w2, in64_of w3, in64_of w4, in64_of w6⟩, ?_⟩
  show (.int .i64 k) :: ([c1, c2, c3, c4, c5, c6, c7, c8, c9, c10, c11, c12, c13, c14, c15, c16] ++ [.int .i64 a, .int .i64 r, .int .i64 d, .bool on, .int .i64 m]) = _
  rw [he]
  rfl
theorem opens_steps {a0 : Option Addr} {len cap : Nat} {d : DataW H} {p : List MemPlace} (h : DataW.Trod enc Try.prog w base spare held 23 (.slice a0 len cap) d p) : TArg w (.slice a0 len cap) len := by
  obtain ⟨fuel, hf⟩ := h
  rcases open_slice Try.underlying23 hf with ⟨hcs, _⟩ | ⟨a, len', cap', m, n, D, Pl, hcs, _, hl, _, hm, _, hi⟩
  · simp [Value.cells] at hcs
    obtain ⟨rfl, rfl, rfl⟩ := hcs
    exact .inl ⟨rfl, _, _, rfl⟩
  · simp [Value.cells] at hcs
    obtain ⟨rfl, rfl, rfl⟩ := hcs
    rcases Nat.eq_zero_or_pos len with h0 | h0
    · subst h0
      exact .inl ⟨rfl, _, _, rfl⟩
    have hlm : len ≤ m := by rw [hm]; split <;> omega
    have each : ∀ i, i < len → ∃ s : Stp, s.Ok w ∧ ∀ j x, (StC s).toList[j]? = some x → w.cell? ((a.add (i * 22)).add j) = some x := by
      intro i hil
      obtain ⟨cs', hc, ht⟩ := hi i (by omega)
      rw [Try.cellsS] at hc
      obtain ⟨_, hcl, hat⟩ := World.cells?_some hc
      obtain ⟨c0, c1, c2, c3, c4, c5, c6, c7, c8, c9, c10, c11, c12, c13, c14, c15, c16, c17, c18, c19, c20, c21, rfl⟩ := array22L hcl
      obtain ⟨s, hs, he⟩ := rd_step ht
      rw [he] at hat
      exact ⟨s, hs, fun j x hx => (hat j (by have := List.getElem?_eq_some_iff.mp hx; obtain ⟨hj, _⟩ := this; simpa [StC] using hj)).trans hx⟩
    have : Inhabited Stp := ⟨⟨0, ⟨⟨0, 0, 0, 0, 0, 0, 0, 0, 0, 0, 0, 0, 0, 0, 0, []⟩, none, 0, 0⟩, 0, 0, 0, true, 0⟩⟩
    obtain ⟨F, hF⟩ := choose_lt each
    obtain ⟨b, o, spot⟩ := a
    have hc0 : w.cell? ((Addr.add ⟨b, o, spot⟩ (0 * 22)).add 0) = some (.int .i64 (F 0).k) := (hF 0 h0).2 0 _ rfl
    have hspot : spot = none := by
      have := World.cell?_spot hc0
      simpa [Addr.add] using this
    subst hspot
    refine .inr ⟨h0, b, o, cap, F, rfl, ?_, fun k hk => ⟨(hF k hk).1, fun j x hx => ?_⟩⟩
    · have := block_of_cell hc0
      simpa [block_add] using this
    · have h1 := (hF k hk).2 j x hx
      rw [add_flat, add_flat] at h1
      exact h1
end

end Go.Proofs.Ytfeoppbincldfaa
