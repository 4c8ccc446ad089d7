/- Arguments that are rows of messages and of stamps: what is read of them. -/
import Derived.Test.YtnfoimkiihfalaaS10Arg
namespace Go.Proofs.Ytnfoimkiihfalaa
open Go.RowKit Go.WideShapes Go.ChangeShapes Go.ChangeAt Go.Joins Go.Deep

theorem add_flat (b o i : Nat) : (⟨b, o, none⟩ : Addr).add i = ⟨b, o + i, none⟩ := add_plain b o i
structure MU where
  m : Mg
  a : Option Addr
  n : Nat
  c : Nat
def MU.u (x : MU) : Value := .slice x.a x.n x.c
structure MU.Ok (w : World) (x : MU) : Prop where
  wf : x.m.Wf
  arg : LArg w x.u x.m.path
/-- The value's elements are these messages. -/
def MArg (w : World) (v : Value) (n : Nat) : Prop :=
  (n = 0 ∧ ∃ a c, v = .slice a 0 c) ∨ (0 < n ∧ ∃ b o c, ∃ F : Nat → MU, v = .slice (some ⟨b, o, none⟩) n c ∧ b < w.heap.size ∧ ∀ k, k < n → (F k).Ok w ∧ ∀ j x, (MC (F k).m (F k).u).toList[j]? = some x → w.cell? ⟨b, o + k * 16 + j, none⟩ = some x)
theorem MArg.slice {n : Nat} {w : World} {v : Value} (h : MArg w v n) : ∃ p c, v = .slice p n c := by
  rcases h with ⟨rfl, p, c, rfl⟩ | ⟨_, b, o, c, F, rfl, _⟩
  · exact ⟨p, c, rfl⟩
  · exact ⟨_, c, rfl⟩
theorem MArg.at {n c : Nat} {w : World} {p : Option Addr} (h : MArg w (.slice p n c) n) (h0 : 0 < n) : ∃ b o, ∃ F : Nat → MU, p = some ⟨b, o, none⟩ ∧ b < w.heap.size ∧ ∀ k, k < n → (F k).Ok w ∧ ∀ j x, (MC (F k).m (F k).u).toList[j]? = some x → w.cell? ⟨b, o + k * 16 + j, none⟩ = some x := by
  rcases h with ⟨e, _⟩ | ⟨_, b, o, c', F, e, h1, h2⟩
  · omega
  · injection e with e1 e2 e3
    exact ⟨b, o, F, e1, h1, h2⟩
theorem array16L {l : List Value} (h : l.length = 16) : ∃ c0 c1 c2 c3 c4 c5 c6 c7 c8 c9 c10 c11 c12 c13 c14 c15, l = [c0, c1, c2, c3, c4, c5, c6, c7, c8, c9, c10, c11, c12, c13, c14, c15] := by
  match l, h with
  | [c0, c1, c2, c3, c4, c5, c6, c7, c8, c9, c10, c11, c12, c13, c14, c15], _ => exact ⟨c0, c1, c2, c3, c4, c5, c6, c7, c8, c9, c10, c11, c12, c13, c14, c15, rfl⟩
section
variable {H : Type} {enc : TypeId × Value → H} {w : World} {base : Nat} {spare : Nat → Bool} {held : Bool}
theorem open_stamps {a0 : Option Addr} {len cap : Nat} {d : DataW H} {p : List MemPlace}
    (h : DataW.Trod enc Try.prog w base spare held 41 (.slice a0 len cap) d p) : ∃ xs, LArg w (.slice a0 len cap) xs := by
  obtain ⟨fuel, hf⟩ := h
  rcases open_ints Try.underlying41 Try.underlying22 Try.cellsT hf with ⟨hcs, _⟩ | ⟨a, len', cap', zs, hcs, _, hl, _, hzl, _, hc, hw⟩
  · simp [Value.cells] at hcs
    obtain ⟨rfl, rfl, rfl⟩ := hcs
    exact ⟨[], fun x hx => by simp at hx, .inl ⟨rfl, _, _, rfl, fun _ => rfl⟩⟩
  · simp [Value.cells] at hcs
    obtain ⟨rfl, rfl, rfl⟩ := hcs
    rcases Nat.eq_zero_or_pos len with h0 | h0
    · subst h0
      exact ⟨[], fun x hx => by simp at hx, .inl ⟨rfl, _, _, rfl, fun e => by cases e⟩⟩
    have hlen : len ≤ zs.length := by rw [hzl]; split <;> omega
    obtain ⟨b, o, spot⟩ := a
    have hspot : spot = none := by simpa [Addr.add] using World.cell?_spot (hc 0 (by omega))
    subst hspot
    have hll : (zs.take len).length = len := by simp; omega
    refine ⟨zs.take len, fun x hx => ?_, .inr ⟨by omega, b, o, cap, by rw [hll], by omega, fun _ => ⟨?_, fun k hk => ?_⟩⟩⟩
    · have := bounds_i64 (hw x (List.mem_of_mem_take hx))
      exact ⟨this.1, by omega⟩
    · have := block_of_cell (hc 0 (by omega))
      simpa [block_add] using this
    · have hk' : k < len := by omega
      have := hc k (by omega)
      rw [add_plain] at this
      rw [this, List.getD_eq_getElem?_getD, List.getD_eq_getElem?_getD, List.getElem?_take, if_pos hk']
set_option maxRecDepth 100000 in
set_option maxHeartbeats 2000000 in
theorem rd_msg {fuel : Nat} {c0 c1 c2 c3 c4 c5 c6 c7 c8 c9 c10 c11 c12 c13 c14 c15 : Value} {x : DataW H × List MemPlace} (h : DataW.trod enc Try.prog w base spare held fuel 30 [c0, c1, c2, c3, c4, c5, c6, c7, c8, c9, c10, c11, c12, c13, c14, c15] = some x) :
    ∃ s : MU, s.Ok w ∧ [c0, c1, c2, c3, c4, c5, c6, c7, c8, c9, c10, c11, c12, c13, c14, c15] = (MC s.m s.u).toList := by
  obtain ⟨xs, n, _, _, _, hl, hall⟩ := DataW.trod_struct Try.underlying30 h
  have hx : ∀ i, i < 13 → ∃ y, xs[i]? = some y := fun i hi => ⟨xs[i]'(by rw [hl]; exact hi), List.getElem?_eq_getElem _⟩
  obtain ⟨y0, hy0⟩ := hx 0 (by omega)
  have t0 := hall 0 _ rfl
  rw [hy0] at t0
  have u0 : DataW.trod enc Try.prog w base spare held n 3 [c0] = some y0 := by
    have e : DataW.trod enc Try.prog w base spare held n 3 ((List.drop 0 [c0, c1, c2, c3, c4, c5, c6, c7, c8, c9, c10, c11, c12, c13, c14, c15]).take (Try.prog.cellsOf 3)) = some y0 := t0
    rw [Try.cellsI] at e
    exact e
  clear t0
  obtain ⟨y1, hy1⟩ := hx 1 (by omega)
  have t1 := hall 1 _ rfl
  rw [hy1] at t1
  have u1 : DataW.trod enc Try.prog w base spare held n 3 [c1] = some y1 := by
    have e : DataW.trod enc Try.prog w base spare held n 3 ((List.drop 1 [c0, c1, c2, c3, c4, c5, c6, c7, c8, c9, c10, c11, c12, c13, c14, c15]).take (Try.prog.cellsOf 3)) = some y1 := t1
    rw [Try.cellsI] at e
    exact e
  clear t1
  obtain ⟨y2, hy2⟩ := hx 2 (by omega)
  have t2 := hall 2 _ rfl
  rw [hy2] at t2
  have u2 : DataW.trod enc Try.prog w base spare held n 3 [c2] = some y2 := by
    have e : DataW.trod enc Try.prog w base spare held n 3 ((List.drop 2 [c0, c1, c2, c3, c4, c5, c6, c7, c8, c9, c10, c11, c12, c13, c14, c15]).take (Try.prog.cellsOf 3)) = some y2 := t2
    rw [Try.cellsI] at e
    exact e
  clear t2
  obtain ⟨y3, hy3⟩ := hx 3 (by omega)
  have t3 := hall 3 _ rfl
  rw [hy3] at t3
  have u3 : DataW.trod enc Try.prog w base spare held n 3 [c3] = some y3 := by
    have e : DataW.trod enc Try.prog w base spare held n 3 ((List.drop 3 [c0, c1, c2, c3, c4, c5, c6, c7, c8, c9, c10, c11, c12, c13, c14, c15]).take (Try.prog.cellsOf 3)) = some y3 := t3
    rw [Try.cellsI] at e
    exact e
  clear t3
  obtain ⟨y4, hy4⟩ := hx 4 (by omega)
  have t4 := hall 4 _ rfl
  rw [hy4] at t4
  have u4 : DataW.trod enc Try.prog w base spare held n 3 [c4] = some y4 := by
    have e : DataW.trod enc Try.prog w base spare held n 3 ((List.drop 4 [c0, c1, c2, c3, c4, c5, c6, c7, c8, c9, c10, c11, c12, c13, c14, c15]).take (Try.prog.cellsOf 3)) = some y4 := t4
    rw [Try.cellsI] at e
    exact e
  clear t4
  obtain ⟨y5, hy5⟩ := hx 5 (by omega)
  have t5 := hall 5 _ rfl
  rw [hy5] at t5
  have u5 : DataW.trod enc Try.prog w base spare held n 22 [c5] = some y5 := by
    have e : DataW.trod enc Try.prog w base spare held n 22 ((List.drop 5 [c0, c1, c2, c3, c4, c5, c6, c7, c8, c9, c10, c11, c12, c13, c14, c15]).take (Try.prog.cellsOf 22)) = some y5 := t5
    rw [Try.cellsT] at e
    exact e
  clear t5
  obtain ⟨y6, hy6⟩ := hx 6 (by omega)
  have t6 := hall 6 _ rfl
  rw [hy6] at t6
  have u6 : DataW.trod enc Try.prog w base spare held n 22 [c6] = some y6 := by
    have e : DataW.trod enc Try.prog w base spare held n 22 ((List.drop 6 [c0, c1, c2, c3, c4, c5, c6, c7, c8, c9, c10, c11, c12, c13, c14, c15]).take (Try.prog.cellsOf 22)) = some y6 := t6
    rw [Try.cellsT] at e
    exact e
  clear t6
  obtain ⟨y7, hy7⟩ := hx 7 (by omega)
  have t7 := hall 7 _ rfl
  rw [hy7] at t7
  have u7 : DataW.trod enc Try.prog w base spare held n 3 [c7] = some y7 := by
    have e : DataW.trod enc Try.prog w base spare held n 3 ((List.drop 7 [c0, c1, c2, c3, c4, c5, c6, c7, c8, c9, c10, c11, c12, c13, c14, c15]).take (Try.prog.cellsOf 3)) = some y7 := t7
    rw [Try.cellsI] at e
    exact e
  clear t7
  obtain ⟨y8, hy8⟩ := hx 8 (by omega)
  have t8 := hall 8 _ rfl
  rw [hy8] at t8
  have u8 : DataW.trod enc Try.prog w base spare held n 3 [c8] = some y8 := by
    have e : DataW.trod enc Try.prog w base spare held n 3 ((List.drop 8 [c0, c1, c2, c3, c4, c5, c6, c7, c8, c9, c10, c11, c12, c13, c14, c15]).take (Try.prog.cellsOf 3)) = some y8 := t8
    rw [Try.cellsI] at e
    exact e
  clear t8
  obtain ⟨y9, hy9⟩ := hx 9 (by omega)
  have t9 := hall 9 _ rfl
  rw [hy9] at t9
  have u9 : DataW.trod enc Try.prog w base spare held n 25 [c9] = some y9 := by
    have e : DataW.trod enc Try.prog w base spare held n 25 ((List.drop 9 [c0, c1, c2, c3, c4, c5, c6, c7, c8, c9, c10, c11, c12, c13, c14, c15]).take (Try.prog.cellsOf 25)) = some y9 := t9
    rw [Try.cellsR] at e
    exact e
  clear t9
  obtain ⟨y10, hy10⟩ := hx 10 (by omega)
  have t10 := hall 10 _ rfl
  rw [hy10] at t10
  have u10 : DataW.trod enc Try.prog w base spare held n 27 [c10, c11, c12, c13] = some y10 := by
    have e : DataW.trod enc Try.prog w base spare held n 27 ((List.drop 10 [c0, c1, c2, c3, c4, c5, c6, c7, c8, c9, c10, c11, c12, c13, c14, c15]).take (Try.prog.cellsOf 27)) = some y10 := t10
    rw [Try.cellsP] at e
    exact e
  clear t10
  obtain ⟨y11, hy11⟩ := hx 11 (by omega)
  have t11 := hall 11 _ rfl
  rw [hy11] at t11
  have u11 : DataW.trod enc Try.prog w base spare held n 3 [c14] = some y11 := by
    have e : DataW.trod enc Try.prog w base spare held n 3 ((List.drop 14 [c0, c1, c2, c3, c4, c5, c6, c7, c8, c9, c10, c11, c12, c13, c14, c15]).take (Try.prog.cellsOf 3)) = some y11 := t11
    rw [Try.cellsI] at e
    exact e
  clear t11
  obtain ⟨y12, hy12⟩ := hx 12 (by omega)
  have t12 := hall 12 _ rfl
  rw [hy12] at t12
  have u12 : DataW.trod enc Try.prog w base spare held n 28 [c15] = some y12 := by
    have e : DataW.trod enc Try.prog w base spare held n 28 ((List.drop 15 [c0, c1, c2, c3, c4, c5, c6, c7, c8, c9, c10, c11, c12, c13, c14, c15]).take (Try.prog.cellsOf 28)) = some y12 := t12
    rw [Try.cellsL] at e
    exact e
  clear t12
  obtain ⟨kind, e0, _, wkind⟩ := DataW.trod_int Try.underlying3 u0
  injection e0 with e0
  subst e0
  obtain ⟨dom, e1, _, wdom⟩ := DataW.trod_int Try.underlying3 u1
  injection e1 with e1
  subst e1
  obtain ⟨seq, e2, _, wseq⟩ := DataW.trod_int Try.underlying3 u2
  injection e2 with e2
  subst e2
  obtain ⟨src, e3, _, wsrc⟩ := DataW.trod_int Try.underlying3 u3
  injection e3 with e3
  subst e3
  obtain ⟨port, e4, _, wport⟩ := DataW.trod_int Try.underlying3 u4
  injection e4 with e4
  subst e4
  obtain ⟨corr, e5, _, wcorr⟩ := DataW.trod_int Try.underlying22 u5
  injection e5 with e5
  subst e5
  obtain ⟨time, e6, _, wtime⟩ := DataW.trod_int Try.underlying22 u6
  injection e6 with e6
  subst e6
  obtain ⟨tw, e7, _, wtw⟩ := DataW.trod_int Try.underlying3 u7
  injection e7 with e7
  subst e7
  obtain ⟨tp, e8, _, wtp⟩ := DataW.trod_int Try.underlying3 u8
  injection e8 with e8
  subst e8
  obtain ⟨rate, e9, _, wrate⟩ := DataW.trod_int Try.underlying25 u9
  injection e9 with e9
  subst e9
  obtain ⟨steps, e11, _, wsteps⟩ := DataW.trod_int Try.underlying3 u11
  injection e11 with e11
  subst e11
  obtain ⟨one, cls, two, id, rfl, rfl, rfl, rfl, wone, wcls, wtwo, wid⟩ := open_prior u10
  have hsl : ∃ a0 len cap, c15 = .slice a0 len cap := by
    rcases DataW.trod_slice Try.underlying28 u12 with ⟨e, _⟩ | ⟨a, len, cap, _, _, _, _, e, _⟩
    · injection e with e; exact ⟨none, 0, 0, e⟩
    · injection e with e; exact ⟨some a, len, cap, e⟩
  obtain ⟨q0, len, cap, rfl⟩ := hsl
  obtain ⟨ys, hys⟩ := open_longs (enc := enc) (base := base) (spare := spare) (held := held) (d := y12.1) (p := y12.2) ⟨n, by simpa [Value.cells] using u12⟩
  exact ⟨⟨⟨kind, dom, seq, src, port, corr, time, tw, tp, rate, one, cls, two, id, steps, ys⟩, q0, len, cap⟩, ⟨⟨in64_of wkind, in64_of wdom, in64_of wseq, in64_of wsrc, in64_of wport, in64_of wcorr, in64_of wtime, in64_of wtw, in64_of wtp, in64_of wrate, wone, wcls, wtwo, wid, in64_of wsteps, hys.1⟩, hys⟩, rfl⟩
theorem opens_msgs {a0 : Option Addr} {len cap : Nat} {d : DataW H} {p : List MemPlace} (h : DataW.Trod enc Try.prog w base spare held 40 (.slice a0 len cap) d p) : MArg w (.slice a0 len cap) len := by
  obtain ⟨fuel, hf⟩ := h
  rcases open_slice Try.underlying40 hf with ⟨hcs, _⟩ | ⟨a, len', cap', m, n, D, Pl, hcs, _, hl, _, hm, _, hi⟩
  · simp [Value.cells] at hcs
    obtain ⟨rfl, rfl, rfl⟩ := hcs
    exact .inl ⟨rfl, _, _, rfl⟩
  · simp [Value.cells] at hcs
    obtain ⟨rfl, rfl, rfl⟩ := hcs
    rcases Nat.eq_zero_or_pos len with h0 | h0
    · subst h0
      exact .inl ⟨rfl, _, _, rfl⟩
    have hlm : len ≤ m := by rw [hm]; split <;> omega
    have each : ∀ i, i < len → ∃ s : MU, s.Ok w ∧ ∀ j x, (MC s.m s.u).toList[j]? = some x → w.cell? ((a.add (i * 16)).add j) = some x := by
      intro i hil
      obtain ⟨cs', hc, ht⟩ := hi i (by omega)
      rw [Try.cellsG] at hc
      obtain ⟨_, hcl, hat⟩ := World.cells?_some hc
      obtain ⟨c0, c1, c2, c3, c4, c5, c6, c7, c8, c9, c10, c11, c12, c13, c14, c15, rfl⟩ := array16L hcl
      obtain ⟨s, hs, he⟩ := rd_msg ht
      rw [he] at hat
      exact ⟨s, hs, fun j x hx => (hat j (by have := List.getElem?_eq_some_iff.mp hx; obtain ⟨hj, _⟩ := this; simpa [MC] using hj)).trans hx⟩
    have : Inhabited MU := ⟨⟨⟨0, 0, 0, 0, 0, 0, 0, 0, 0, 0, 0, 0, 0, 0, 0, []⟩, none, 0, 0⟩⟩
    obtain ⟨F, hF⟩ := choose_lt each
    obtain ⟨b, o, spot⟩ := a
    have hc0 : w.cell? ((Addr.add ⟨b, o, spot⟩ (0 * 16)).add 0) = some (.int .i64 (F 0).m.kind) := (hF 0 h0).2 0 _ rfl
    have hspot : spot = none := by
      have := World.cell?_spot hc0
      simpa [Addr.add] using this
    subst hspot
    refine .inr ⟨h0, b, o, cap, F, rfl, ?_, fun k hk => ⟨(hF k hk).1, fun j x hx => ?_⟩⟩
    · have := block_of_cell hc0
      simpa [block_add] using this
    · have h1 := (hF k hk).2 j x hx
      rw [add_flat, add_flat] at h1
      exact h1
end

end Go.Proofs.Ytnfoimkiihfalaa
