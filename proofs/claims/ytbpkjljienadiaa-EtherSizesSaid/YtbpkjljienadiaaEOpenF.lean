/- An argument that is a frame: what is read of it. -/
import Derived.Test.YtbpkjljienadiaaBOpen
import Derived.Test.YtbpkjljienadiaaEBox
namespace Go.Proofs.Ytbpkjljienadiaa
open Go.RowKit Go.WideShapes Go.ChangeShapes Go.ChangeAt Go.Joins

theorem Try.cellsF : Try.prog.cellsOf 26 = 20 := by kernel_rfl
theorem Try.cellsM : Try.prog.cellsOf 23 = 6 := by kernel_rfl
theorem Try.cellsI : Try.prog.cellsOf 3 = 1 := by kernel_rfl
theorem Try.cellsBo : Try.prog.cellsOf 4 = 1 := by kernel_rfl
theorem Try.cellsS : Try.prog.cellsOf 24 = 1 := by kernel_rfl
theorem array20 {cs : Array Value} (h : cs.size = 20) : ∃ c0 c1 c2 c3 c4 c5 c6 c7 c8 c9 c10 c11 c12 c13 c14 c15 c16 c17 c18 c19, cs = #[c0, c1, c2, c3, c4, c5, c6, c7, c8, c9, c10, c11, c12, c13, c14, c15, c16, c17, c18, c19] := by
  obtain ⟨l⟩ := cs
  have hl : l.length = 20 := h
  match l, hl with
  | [c0, c1, c2, c3, c4, c5, c6, c7, c8, c9, c10, c11, c12, c13, c14, c15, c16, c17, c18, c19], _ => exact ⟨c0, c1, c2, c3, c4, c5, c6, c7, c8, c9, c10, c11, c12, c13, c14, c15, c16, c17, c18, c19, rfl⟩
theorem array6 {l : List Value} (h : l.length = 6) : ∃ a b c d e f, l = [a, b, c, d, e, f] := by
  match l, h with
  | [a, b, c, d, e, f], _ => exact ⟨a, b, c, d, e, f, rfl⟩

section
variable {H : Type} {enc : TypeId × Value → H} {w : World} {base : Nat} {spare : Nat → Bool} {held : Bool}
theorem nat_of_u8 {n : Int} (h : (Lit.int .u8 n).wf = true) : ∃ x : Nat, n = (x : Int) ∧ x < 256 := by
  have := bounds_u8 h
  exact ⟨n.toNat, by omega, by omega⟩
theorem open_mac {n : Nat} {a b c d e f : Value} {x : DataW H × List MemPlace} (h : DataW.trod enc Try.prog w base spare held n 23 [a, b, c, d, e, f] = some x) :
    ∃ y0 y1 y2 y3 y4 y5 : Nat, a = .int .u8 (y0 : Int) ∧ b = .int .u8 (y1 : Int) ∧ c = .int .u8 (y2 : Int) ∧ d = .int .u8 (y3 : Int) ∧ e = .int .u8 (y4 : Int) ∧ f = .int .u8 (y5 : Int) ∧ y0 < 256 ∧ y1 < 256 ∧ y2 < 256 ∧ y3 < 256 ∧ y4 < 256 ∧ y5 < 256 := by
  obtain ⟨xs, m, _, _, _, hl, hall⟩ := DataW.trod_array Try.underlying23 h
  have one : ∀ i, i < 6 → ∃ y : Nat, ([a, b, c, d, e, f].drop i).take 1 = [.int .u8 (y : Int)] ∧ y < 256 := by
    intro i hi
    have h1 := hall i hi
    rw [Try.cellsB, Nat.mul_one, List.getElem?_eq_getElem (by omega)] at h1
    obtain ⟨z, hz, _, hw⟩ := DataW.trod_int Try.underlying5 h1
    obtain ⟨y, rfl, hy⟩ := nat_of_u8 hw
    exact ⟨y, hz, hy⟩
  obtain ⟨y0, e0, g0⟩ := one 0 (by omega)
  obtain ⟨y1, e1, g1⟩ := one 1 (by omega)
  obtain ⟨y2, e2, g2⟩ := one 2 (by omega)
  obtain ⟨y3, e3, g3⟩ := one 3 (by omega)
  obtain ⟨y4, e4, g4⟩ := one 4 (by omega)
  obtain ⟨y5, e5, g5⟩ := one 5 (by omega)
  injection e0 with e0; injection e1 with e1; injection e2 with e2; injection e3 with e3; injection e4 with e4; injection e5 with e5
  exact ⟨y0, y1, y2, y3, y4, y5, e0, e1, e2, e3, e4, e5, g0, g1, g2, g3, g4, g5⟩

theorem open_macarg {r : Reach} {b0 : Nat} {v : Value} {d : DataW H} {p : List MemPlace} (hv : Value.okWide Try.prog w r b0 23 v) (h : DataW.Trod enc Try.prog w base spare held 23 v d p) :
    ∃ y0 y1 y2 y3 y4 y5 : Nat, v = .agg #[.int .u8 (y0 : Int), .int .u8 (y1 : Int), .int .u8 (y2 : Int), .int .u8 (y3 : Int), .int .u8 (y4 : Int), .int .u8 (y5 : Int)] ∧ y0 < 256 ∧ y1 < 256 ∧ y2 < 256 ∧ y3 < 256 ∧ y4 < 256 ∧ y5 < 256 := by
  have hrow : ∃ cs, v = .agg cs ∧ cs.size = Try.prog.cellsOf 23 ∧ Row.okWide Try.prog w r b0 23 cs := by
    simp only [Value.okWide, Try.underlying23] at hv
    exact hv
  obtain ⟨⟨l⟩, rfl, hsz, _⟩ := hrow
  obtain ⟨a, b, c, d, e, f, rfl⟩ := array6 (hsz.trans Try.cellsM)
  obtain ⟨fuel, hf⟩ := h
  obtain ⟨y0, y1, y2, y3, y4, y5, rfl, rfl, rfl, rfl, rfl, rfl, k⟩ := open_mac (by simpa [Value.cells] using hf)
  exact ⟨y0, y1, y2, y3, y4, y5, rfl, k⟩

theorem open_frame {r : Reach} {b0 : Nat} {v : Value} {d : DataW H} {p : List MemPlace} (hv : Value.okWide Try.prog w r b0 26 v) (h : DataW.Trod enc Try.prog w base spare held 26 v d p) :
    ∃ (f : Fr) (u : Value), v = FV f u ∧ f.Wf ∧ BArg w u f.data := by
  have hrow : ∃ cs, v = .agg cs ∧ cs.size = Try.prog.cellsOf 26 ∧ Row.okWide Try.prog w r b0 26 cs := by
    simp only [Value.okWide, Try.underlying26] at hv
    exact hv
  obtain ⟨cs, rfl, hsz, hcells⟩ := hrow
  obtain ⟨c0, c1, c2, c3, c4, c5, c6, c7, c8, c9, c10, c11, c12, c13, c14, c15, c16, c17, c18, c19, rfl⟩ := array20 (hsz.trans Try.cellsF)
  obtain ⟨fuel, hf⟩ := h
  obtain ⟨xs, n, _, _, _, hl, hall⟩ := DataW.trod_struct Try.underlying26 hf
  have hx : ∀ i, i < 10 → ∃ y, xs[i]? = some y := fun i hi => ⟨xs[i]'(by rw [hl]; exact hi), List.getElem?_eq_getElem _⟩
  obtain ⟨y0, hy0⟩ := hx 0 (by omega)
  have t0 := hall 0 _ rfl
  rw [hy0] at t0
  have u0 : DataW.trod enc Try.prog w base spare held n 23 [c0, c1, c2, c3, c4, c5] = some y0 := by
    have e : DataW.trod enc Try.prog w base spare held n 23 ((List.drop 0 [c0, c1, c2, c3, c4, c5, c6, c7, c8, c9, c10, c11, c12, c13, c14, c15, c16, c17, c18, c19]).take (Try.prog.cellsOf 23)) = some y0 := t0
    rw [Try.cellsM] at e
    exact e
  clear t0
  obtain ⟨y1, hy1⟩ := hx 1 (by omega)
  have t1 := hall 1 _ rfl
  rw [hy1] at t1
  have u1 : DataW.trod enc Try.prog w base spare held n 23 [c6, c7, c8, c9, c10, c11] = some y1 := by
    have e : DataW.trod enc Try.prog w base spare held n 23 ((List.drop 6 [c0, c1, c2, c3, c4, c5, c6, c7, c8, c9, c10, c11, c12, c13, c14, c15, c16, c17, c18, c19]).take (Try.prog.cellsOf 23)) = some y1 := t1
    rw [Try.cellsM] at e
    exact e
  clear t1
  obtain ⟨y2, hy2⟩ := hx 2 (by omega)
  have t2 := hall 2 _ rfl
  rw [hy2] at t2
  have u2 : DataW.trod enc Try.prog w base spare held n 4 [c12] = some y2 := by
    have e : DataW.trod enc Try.prog w base spare held n 4 ((List.drop 12 [c0, c1, c2, c3, c4, c5, c6, c7, c8, c9, c10, c11, c12, c13, c14, c15, c16, c17, c18, c19]).take (Try.prog.cellsOf 4)) = some y2 := t2
    rw [Try.cellsBo] at e
    exact e
  clear t2
  obtain ⟨y3, hy3⟩ := hx 3 (by omega)
  have t3 := hall 3 _ rfl
  rw [hy3] at t3
  have u3 : DataW.trod enc Try.prog w base spare held n 3 [c13] = some y3 := by
    have e : DataW.trod enc Try.prog w base spare held n 3 ((List.drop 13 [c0, c1, c2, c3, c4, c5, c6, c7, c8, c9, c10, c11, c12, c13, c14, c15, c16, c17, c18, c19]).take (Try.prog.cellsOf 3)) = some y3 := t3
    rw [Try.cellsI] at e
    exact e
  clear t3
  obtain ⟨y4, hy4⟩ := hx 4 (by omega)
  have t4 := hall 4 _ rfl
  rw [hy4] at t4
  have u4 : DataW.trod enc Try.prog w base spare held n 3 [c14] = some y4 := by
    have e : DataW.trod enc Try.prog w base spare held n 3 ((List.drop 14 [c0, c1, c2, c3, c4, c5, c6, c7, c8, c9, c10, c11, c12, c13, c14, c15, c16, c17, c18, c19]).take (Try.prog.cellsOf 3)) = some y4 := t4
    rw [Try.cellsI] at e
    exact e
  clear t4
  obtain ⟨y5, hy5⟩ := hx 5 (by omega)
  have t5 := hall 5 _ rfl
  rw [hy5] at t5
  have u5 : DataW.trod enc Try.prog w base spare held n 4 [c15] = some y5 := by
    have e : DataW.trod enc Try.prog w base spare held n 4 ((List.drop 15 [c0, c1, c2, c3, c4, c5, c6, c7, c8, c9, c10, c11, c12, c13, c14, c15, c16, c17, c18, c19]).take (Try.prog.cellsOf 4)) = some y5 := t5
    rw [Try.cellsBo] at e
    exact e
  clear t5
  obtain ⟨y6, hy6⟩ := hx 6 (by omega)
  have t6 := hall 6 _ rfl
  rw [hy6] at t6
  have u6 : DataW.trod enc Try.prog w base spare held n 4 [c16] = some y6 := by
    have e : DataW.trod enc Try.prog w base spare held n 4 ((List.drop 16 [c0, c1, c2, c3, c4, c5, c6, c7, c8, c9, c10, c11, c12, c13, c14, c15, c16, c17, c18, c19]).take (Try.prog.cellsOf 4)) = some y6 := t6
    rw [Try.cellsBo] at e
    exact e
  clear t6
  obtain ⟨y7, hy7⟩ := hx 7 (by omega)
  have t7 := hall 7 _ rfl
  rw [hy7] at t7
  have u7 : DataW.trod enc Try.prog w base spare held n 3 [c17] = some y7 := by
    have e : DataW.trod enc Try.prog w base spare held n 3 ((List.drop 17 [c0, c1, c2, c3, c4, c5, c6, c7, c8, c9, c10, c11, c12, c13, c14, c15, c16, c17, c18, c19]).take (Try.prog.cellsOf 3)) = some y7 := t7
    rw [Try.cellsI] at e
    exact e
  clear t7
  obtain ⟨y8, hy8⟩ := hx 8 (by omega)
  have t8 := hall 8 _ rfl
  rw [hy8] at t8
  have u8 : DataW.trod enc Try.prog w base spare held n 3 [c18] = some y8 := by
    have e : DataW.trod enc Try.prog w base spare held n 3 ((List.drop 18 [c0, c1, c2, c3, c4, c5, c6, c7, c8, c9, c10, c11, c12, c13, c14, c15, c16, c17, c18, c19]).take (Try.prog.cellsOf 3)) = some y8 := t8
    rw [Try.cellsI] at e
    exact e
  clear t8
  obtain ⟨y9, hy9⟩ := hx 9 (by omega)
  have t9 := hall 9 _ rfl
  rw [hy9] at t9
  have u9 : DataW.trod enc Try.prog w base spare held n 24 [c19] = some y9 := by
    have e : DataW.trod enc Try.prog w base spare held n 24 ((List.drop 19 [c0, c1, c2, c3, c4, c5, c6, c7, c8, c9, c10, c11, c12, c13, c14, c15, c16, c17, c18, c19]).take (Try.prog.cellsOf 24)) = some y9 := t9
    rw [Try.cellsS] at e
    exact e
  clear t9
  obtain ⟨d0, d1, d2, d3, d4, d5, rfl, rfl, rfl, rfl, rfl, rfl, a0, a1, a2, a3, a4, a5⟩ := open_mac u0
  obtain ⟨s0, s1, s2, s3, s4, s5, rfl, rfl, rfl, rfl, rfl, rfl, k0, k1, k2, k3, k4, k5⟩ := open_mac u1
  obtain ⟨tg, e2, _⟩ := DataW.trod_bool Try.underlying4 u2
  injection e2 with e2
  subst e2
  obtain ⟨dr, e5, _⟩ := DataW.trod_bool Try.underlying4 u5
  injection e5 with e5
  subst e5
  obtain ⟨mn, e6, _⟩ := DataW.trod_bool Try.underlying4 u6
  injection e6 with e6
  subst e6
  obtain ⟨vid, e3, _, wvid⟩ := DataW.trod_int Try.underlying3 u3
  injection e3 with e3
  subst e3
  have kvid : -9223372036854775808 ≤ vid ∧ vid < 9223372036854775808 := by
    have := bounds_i64 wvid
    omega
  obtain ⟨prio, e4, _, wprio⟩ := DataW.trod_int Try.underlying3 u4
  injection e4 with e4
  subst e4
  have kprio : -9223372036854775808 ≤ prio ∧ prio < 9223372036854775808 := by
    have := bounds_i64 wprio
    omega
  obtain ⟨seq, e7, _, wseq⟩ := DataW.trod_int Try.underlying3 u7
  injection e7 with e7
  subst e7
  have kseq : -9223372036854775808 ≤ seq ∧ seq < 9223372036854775808 := by
    have := bounds_i64 wseq
    omega
  obtain ⟨typ, e8, _, wtyp⟩ := DataW.trod_int Try.underlying3 u8
  injection e8 with e8
  subst e8
  have ktyp : -9223372036854775808 ≤ typ ∧ typ < 9223372036854775808 := by
    have := bounds_i64 wtyp
    omega
  have hsl : ∃ a0 len cap, c19 = .slice a0 len cap := by
    rcases DataW.trod_slice Try.underlying24 u9 with ⟨e, _⟩ | ⟨a, len, cap, _, _, _, _, e, _⟩
    · injection e with e; exact ⟨none, 0, 0, e⟩
    · injection e with e; exact ⟨some a, len, cap, e⟩
  obtain ⟨q0, len, cap, rfl⟩ := hsl
  obtain ⟨ys, hys⟩ := open_bytes (enc := enc) (base := base) (spare := spare) (held := held) (d := y9.1) (p := y9.2) ⟨n, by simpa [Value.cells] using u9⟩
  refine ⟨⟨d0, d1, d2, d3, d4, d5, s0, s1, s2, s3, s4, s5, tg, vid, prio, dr, mn, seq, typ, ys⟩, .slice q0 len cap, rfl, ⟨?_, hys.1, kvid.1, kvid.2, kprio.1, kprio.2, kseq.1, kseq.2, ktyp.1, ktyp.2⟩, hys⟩
  intro x hm
  simp only [Fr.heads, List.mem_cons, List.not_mem_nil, or_false] at hm
  rcases hm with rfl | rfl | rfl | rfl | rfl | rfl | rfl | rfl | rfl | rfl | rfl | rfl <;> assumption
end

end Go.Proofs.Ytbpkjljienadiaa
