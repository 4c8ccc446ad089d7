/- Arguments that are rows of the law's steps, with a message in each: what is read of them. -/
import Derived.Test.YtholemjbjmkpkaaS11M
namespace Go.Proofs.Ytholemjbjmkpkaa
open Go.RowKit Go.WideShapes Go.ChangeShapes Go.ChangeAt Go.Joins Go.Deep

theorem Try.cellsS : Try.prog.cellsOf 66 = 21 := by kernel_rfl
structure MU where
  m : Mg
  a : Option Addr
  n : Nat
  c : Nat
def MU.u (x : MU) : Value := .slice x.a x.n x.c
structure MU.Ok (w : World) (x : MU) : Prop where
  wf : x.m.Wf
  arg : LArg w x.u x.m.path
/-- A step in plain numbers. -/
structure Stp where
  k : Int
  at_ : Int
  mu : MU
  now : Int
  on : Bool
  n : Int
def StC (s : Stp) : Array Value := #[.int .i64 s.k, .int .i64 s.at_, .int .i64 s.mu.m.kind, .int .i64 s.mu.m.dom, .int .i64 s.mu.m.seq, .int .i64 s.mu.m.src, .int .i64 s.mu.m.port, .int .i64 s.mu.m.corr, .int .i64 s.mu.m.time, .int .i64 s.mu.m.tw, .int .i64 s.mu.m.tp, .int .i64 s.mu.m.rate, .int .i64 s.mu.m.one, .int .i64 s.mu.m.cls, .int .i64 s.mu.m.two, .int .i64 s.mu.m.id, .int .i64 s.mu.m.steps, s.mu.u, .int .i64 s.now, .bool s.on, .int .i64 s.n]
structure Stp.Ok (w : World) (s : Stp) : Prop where
  k : In64 s.k
  at_ : In64 s.at_
  mu : s.mu.Ok w
  now : In64 s.now
  n : In64 s.n
/-- The value's elements are these steps. -/
def TArg (w : World) (v : Value) (n : Nat) : Prop :=
  (n = 0 ∧ ∃ a c, v = .slice a 0 c) ∨ (0 < n ∧ ∃ b o c, ∃ F : Nat → Stp, v = .slice (some ⟨b, o, none⟩) n c ∧ b < w.heap.size ∧ ∀ k, k < n → (F k).Ok w ∧ ∀ j x, (StC (F k)).toList[j]? = some x → w.cell? ⟨b, o + k * 21 + j, none⟩ = some x)
theorem TArg.slice {n : Nat} {w : World} {v : Value} (h : TArg w v n) : ∃ p c, v = .slice p n c := by
  rcases h with ⟨rfl, p, c, rfl⟩ | ⟨_, b, o, c, F, rfl, _⟩
  · exact ⟨p, c, rfl⟩
  · exact ⟨_, c, rfl⟩
theorem TArg.at {n c : Nat} {w : World} {p : Option Addr} (h : TArg w (.slice p n c) n) (h0 : 0 < n) : ∃ b o, ∃ F : Nat → Stp, p = some ⟨b, o, none⟩ ∧ b < w.heap.size ∧ ∀ k, k < n → (F k).Ok w ∧ ∀ j x, (StC (F k)).toList[j]? = some x → w.cell? ⟨b, o + k * 21 + j, none⟩ = some x := by
  rcases h with ⟨e, _⟩ | ⟨_, b, o, c', F, e, h1, h2⟩
  · omega
  · injection e with e1 e2 e3
    exact ⟨b, o, F, e1, h1, h2⟩
theorem array21L {l : List Value} (h : l.length = 21) : ∃ c0 c1 c2 c3 c4 c5 c6 c7 c8 c9 c10 c11 c12 c13 c14 c15 c16 c17 c18 c19 c20, l = [c0, c1, c2, c3, c4, c5, c6, c7, c8, c9, c10, c11, c12, c13, c14, c15, c16, c17, c18, c19, c20] := by
  match l, h with
  | [c0, c1, c2, c3, c4, c5, c6, c7, c8, c9, c10, c11, c12, c13, c14, c15, c16, c17, c18, c19, c20], _ => exact ⟨c0, c1, c2, c3, c4, c5, c6, c7, c8, c9, c10, c11, c12, c13, c14, c15, c16, c17, c18, c19, c20, rfl⟩
section
variable {H : Type} {enc : TypeId × Value → H} {w : World} {base : Nat} {spare : Nat → Bool} {held : Bool}
set_option maxRecDepth 100000 in
set_option maxHeartbeats 2000000 in
theorem rd_msg {fuel : Nat} {c0 c1 c2 c3 c4 c5 c6 c7 c8 c9 c10 c11 c12 c13 c14 c15 : Value} {x : DataW H × List MemPlace} (h : DataW.trod enc Try.prog w base spare held fuel 58 [c0, c1, c2, c3, c4, c5, c6, c7, c8, c9, c10, c11, c12, c13, c14, c15] = some x) :
    ∃ s : MU, s.Ok w ∧ [c0, c1, c2, c3, c4, c5, c6, c7, c8, c9, c10, c11, c12, c13, c14, c15] = (MC s.m s.u).toList := by
  obtain ⟨xs, n, _, _, _, hl, hall⟩ := DataW.trod_struct Try.underlying58 h
  have hx : ∀ i, i < 13 → ∃ y, xs[i]? = some y := fun i hi => ⟨xs[i]'(by rw [hl]; exact hi), List.getElem?_eq_getElem _⟩
  obtain ⟨y0, hy0⟩ := hx 0 (by omega)
  have t0 := hall 0 _ rfl
  rw [hy0] at t0
  have u0 : DataW.trod enc Try.prog w base spare held n 3 [c0] = some y0 := by
    have e : DataW.trod enc Try.prog w base spare held n 3 ((List.drop 0 [c0, c1, c2, c3, c4, c5, c6, c7, c8, c9, c10, c11, c12, c13, c14, c15]).take (Try.prog.cellsOf 3)) = some y0 := t0
    rw [Try.cellsI] at e
    exact e
  clear t0
  obtain ⟨y1, hy1⟩ := hx 1 (by omega)
  have t1 := hall 1 _ rfl
  rw [hy1] at t1
  have u1 : DataW.trod enc Try.prog w base spare held n 3 [c1] = some y1 := by
    have e : DataW.trod enc Try.prog w base spare held n 3 ((List.drop 1 [c0, c1, c2, c3, c4, c5, c6, c7, c8, c9, c10, c11, c12, c13, c14, c15]).take (Try.prog.cellsOf 3)) = some y1 := t1
    rw [Try.cellsI] at e
    exact e
  clear t1
  obtain ⟨y2, hy2⟩ := hx 2 (by omega)
  have t2 := hall 2 _ rfl
  rw [hy2] at t2
  have u2 : DataW.trod enc Try.prog w base spare held n 3 [c2] = some y2 := by
    have e : DataW.trod enc Try.prog w base spare held n 3 ((List.drop 2 [c0, c1, c2, c3, c4, c5, c6, c7, c8, c9, c10, c11, c12, c13, c14, c15]).take (Try.prog.cellsOf 3)) = some y2 := t2
    rw [Try.cellsI] at e
    exact e
  clear t2
  obtain ⟨y3, hy3⟩ := hx 3 (by omega)
  have t3 := hall 3 _ rfl
  rw [hy3] at t3
  have u3 : DataW.trod enc Try.prog w base spare held n 3 [c3] = some y3 := by
    have e : DataW.trod enc Try.prog w base spare held n 3 ((List.drop 3 [c0, c1, c2, c3, c4, c5, c6, c7, c8, c9, c10, c11, c12, c13, c14, c15]).take (Try.prog.cellsOf 3)) = some y3 := t3
    rw [Try.cellsI] at e
    exact e
  clear t3
  obtain ⟨y4, hy4⟩ := hx 4 (by omega)
  have t4 := hall 4 _ rfl
  rw [hy4] at t4
  have u4 : DataW.trod enc Try.prog w base spare held n 3 [c4] = some y4 := by
    have e : DataW.trod enc Try.prog w base spare held n 3 ((List.drop 4 [c0, c1, c2, c3, c4, c5, c6, c7, c8, c9, c10, c11, c12, c13, c14, c15]).take (Try.prog.cellsOf 3)) = some y4 := t4
    rw [Try.cellsI] at e
    exact e
  clear t4
  obtain ⟨y5, hy5⟩ := hx 5 (by omega)
  have t5 := hall 5 _ rfl
  rw [hy5] at t5
  have u5 : DataW.trod enc Try.prog w base spare held n 55 [c5] = some y5 := by
    have e : DataW.trod enc Try.prog w base spare held n 55 ((List.drop 5 [c0, c1, c2, c3, c4, c5, c6, c7, c8, c9, c10, c11, c12, c13, c14, c15]).take (Try.prog.cellsOf 55)) = some y5 := t5
    rw [Try.cellsT] at e
    exact e
  clear t5
  obtain ⟨y6, hy6⟩ := hx 6 (by omega)
  have t6 := hall 6 _ rfl
  rw [hy6] at t6
  have u6 : DataW.trod enc Try.prog w base spare held n 55 [c6] = some y6 := by
    have e : DataW.trod enc Try.prog w base spare held n 55 ((List.drop 6 [c0, c1, c2, c3, c4, c5, c6, c7, c8, c9, c10, c11, c12, c13, c14, c15]).take (Try.prog.cellsOf 55)) = some y6 := t6
    rw [Try.cellsT] at e
    exact e
  clear t6
  obtain ⟨y7, hy7⟩ := hx 7 (by omega)
  have t7 := hall 7 _ rfl
  rw [hy7] at t7
  have u7 : DataW.trod enc Try.prog w base spare held n 3 [c7] = some y7 := by
    have e : DataW.trod enc Try.prog w base spare held n 3 ((List.drop 7 [c0, c1, c2, c3, c4, c5, c6, c7, c8, c9, c10, c11, c12, c13, c14, c15]).take (Try.prog.cellsOf 3)) = some y7 := t7
    rw [Try.cellsI] at e
    exact e
  clear t7
  obtain ⟨y8, hy8⟩ := hx 8 (by omega)
  have t8 := hall 8 _ rfl
  rw [hy8] at t8
  have u8 : DataW.trod enc Try.prog w base spare held n 3 [c8] = some y8 := by
    have e : DataW.trod enc Try.prog w base spare held n 3 ((List.drop 8 [c0, c1, c2, c3, c4, c5, c6, c7, c8, c9, c10, c11, c12, c13, c14, c15]).take (Try.prog.cellsOf 3)) = some y8 := t8
    rw [Try.cellsI] at e
    exact e
  clear t8
  obtain ⟨y9, hy9⟩ := hx 9 (by omega)
  have t9 := hall 9 _ rfl
  rw [hy9] at t9
  have u9 : DataW.trod enc Try.prog w base spare held n 56 [c9] = some y9 := by
    have e : DataW.trod enc Try.prog w base spare held n 56 ((List.drop 9 [c0, c1, c2, c3, c4, c5, c6, c7, c8, c9, c10, c11, c12, c13, c14, c15]).take (Try.prog.cellsOf 56)) = some y9 := t9
    rw [Try.cellsR] at e
    exact e
  clear t9
  obtain ⟨y10, hy10⟩ := hx 10 (by omega)
  have t10 := hall 10 _ rfl
  rw [hy10] at t10
  have u10 : DataW.trod enc Try.prog w base spare held n 23 [c10, c11, c12, c13] = some y10 := by
    have e : DataW.trod enc Try.prog w base spare held n 23 ((List.drop 10 [c0, c1, c2, c3, c4, c5, c6, c7, c8, c9, c10, c11, c12, c13, c14, c15]).take (Try.prog.cellsOf 23)) = some y10 := t10
    rw [Try.cellsP] at e
    exact e
  clear t10
  obtain ⟨y11, hy11⟩ := hx 11 (by omega)
  have t11 := hall 11 _ rfl
  rw [hy11] at t11
  have u11 : DataW.trod enc Try.prog w base spare held n 3 [c14] = some y11 := by
    have e : DataW.trod enc Try.prog w base spare held n 3 ((List.drop 14 [c0, c1, c2, c3, c4, c5, c6, c7, c8, c9, c10, c11, c12, c13, c14, c15]).take (Try.prog.cellsOf 3)) = some y11 := t11
    rw [Try.cellsI] at e
    exact e
  clear t11
  obtain ⟨y12, hy12⟩ := hx 12 (by omega)
  have t12 := hall 12 _ rfl
  rw [hy12] at t12
  have u12 : DataW.trod enc Try.prog w base spare held n 40 [c15] = some y12 := by
    have e : DataW.trod enc Try.prog w base spare held n 40 ((List.drop 15 [c0, c1, c2, c3, c4, c5, c6, c7, c8, c9, c10, c11, c12, c13, c14, c15]).take (Try.prog.cellsOf 40)) = some y12 := t12
    rw [Try.cellsL] at e
    exact e
  clear t12
  obtain ⟨kind, e0, _, wkind⟩ := DataW.trod_int Try.underlying3 u0
  injection e0 with e0
  subst e0
  obtain ⟨dom, e1, _, wdom⟩ := DataW.trod_int Try.underlying3 u1
  injection e1 with e1
  subst e1
  obtain ⟨seq, e2, _, wseq⟩ := DataW.trod_int Try.underlying3 u2
  injection e2 with e2
  subst e2
  obtain ⟨src, e3, _, wsrc⟩ := DataW.trod_int Try.underlying3 u3
  injection e3 with e3
  subst e3
  obtain ⟨port, e4, _, wport⟩ := DataW.trod_int Try.underlying3 u4
  injection e4 with e4
  subst e4
  obtain ⟨corr, e5, _, wcorr⟩ := DataW.trod_int Try.underlying55 u5
  injection e5 with e5
  subst e5
  obtain ⟨time, e6, _, wtime⟩ := DataW.trod_int Try.underlying55 u6
  injection e6 with e6
  subst e6
  obtain ⟨tw, e7, _, wtw⟩ := DataW.trod_int Try.underlying3 u7
  injection e7 with e7
  subst e7
  obtain ⟨tp, e8, _, wtp⟩ := DataW.trod_int Try.underlying3 u8
  injection e8 with e8
  subst e8
  obtain ⟨rate, e9, _, wrate⟩ := DataW.trod_int Try.underlying56 u9
  injection e9 with e9
  subst e9
  obtain ⟨steps, e11, _, wsteps⟩ := DataW.trod_int Try.underlying3 u11
  injection e11 with e11
  subst e11
  obtain ⟨one, cls, two, id, rfl, rfl, rfl, rfl, wone, wcls, wtwo, wid⟩ := open_prior u10
  have hsl : ∃ a0 len cap, c15 = .slice a0 len cap := by
    rcases DataW.trod_slice Try.underlying40 u12 with ⟨e, _⟩ | ⟨a, len, cap, _, _, _, _, e, _⟩
    · injection e with e; exact ⟨none, 0, 0, e⟩
    · injection e with e; exact ⟨some a, len, cap, e⟩
  obtain ⟨q0, len, cap, rfl⟩ := hsl
  obtain ⟨ys, hys⟩ := open_longs (enc := enc) (base := base) (spare := spare) (held := held) (d := y12.1) (p := y12.2) ⟨n, by simpa [Value.cells] using u12⟩
  exact ⟨⟨⟨kind, dom, seq, src, port, corr, time, tw, tp, rate, one, cls, two, id, steps, ys⟩, q0, len, cap⟩, ⟨⟨in64_of wkind, in64_of wdom, in64_of wseq, in64_of wsrc, in64_of wport, in64_of wcorr, in64_of wtime, in64_of wtw, in64_of wtp, in64_of wrate, wone, wcls, wtwo, wid, in64_of wsteps, hys.1⟩, hys⟩, rfl⟩
set_option maxRecDepth 100000 in
set_option maxHeartbeats 2000000 in
theorem rd_step {fuel : Nat} {c0 c1 c2 c3 c4 c5 c6 c7 c8 c9 c10 c11 c12 c13 c14 c15 c16 c17 c18 c19 c20 : Value} {x : DataW H × List MemPlace} (h : DataW.trod enc Try.prog w base spare held fuel 66 [c0, c1, c2, c3, c4, c5, c6, c7, c8, c9, c10, c11, c12, c13, c14, c15, c16, c17, c18, c19, c20] = some x) :
    ∃ s : Stp, s.Ok w ∧ [c0, c1, c2, c3, c4, c5, c6, c7, c8, c9, c10, c11, c12, c13, c14, c15, c16, c17, c18, c19, c20] = (StC s).toList := by
  obtain ⟨xs, n, _, _, _, hl, hall⟩ := DataW.trod_struct Try.underlying66 h
  have hx : ∀ i, i < 6 → ∃ y, xs[i]? = some y := fun i hi => ⟨xs[i]'(by rw [hl]; exact hi), List.getElem?_eq_getElem _⟩
  obtain ⟨y0, hy0⟩ := hx 0 (by omega)
  have t0 := hall 0 _ rfl
  rw [hy0] at t0
  have u0 : DataW.trod enc Try.prog w base spare held n 3 [c0] = some y0 := by
    have e : DataW.trod enc Try.prog w base spare held n 3 ((List.drop 0 [c0, c1, c2, c3, c4, c5, c6, c7, c8, c9, c10, c11, c12, c13, c14, c15, c16, c17, c18, c19, c20]).take (Try.prog.cellsOf 3)) = some y0 := t0
    rw [Try.czint] at e
    exact e
  clear t0
  obtain ⟨y1, hy1⟩ := hx 1 (by omega)
  have t1 := hall 1 _ rfl
  rw [hy1] at t1
  have u1 : DataW.trod enc Try.prog w base spare held n 3 [c1] = some y1 := by
    have e : DataW.trod enc Try.prog w base spare held n 3 ((List.drop 1 [c0, c1, c2, c3, c4, c5, c6, c7, c8, c9, c10, c11, c12, c13, c14, c15, c16, c17, c18, c19, c20]).take (Try.prog.cellsOf 3)) = some y1 := t1
    rw [Try.czint] at e
    exact e
  clear t1
  obtain ⟨y2, hy2⟩ := hx 2 (by omega)
  have t2 := hall 2 _ rfl
  rw [hy2] at t2
  have u2 : DataW.trod enc Try.prog w base spare held n 58 [c2, c3, c4, c5, c6, c7, c8, c9, c10, c11, c12, c13, c14, c15, c16, c17] = some y2 := by
    have e : DataW.trod enc Try.prog w base spare held n 58 ((List.drop 2 [c0, c1, c2, c3, c4, c5, c6, c7, c8, c9, c10, c11, c12, c13, c14, c15, c16, c17, c18, c19, c20]).take (Try.prog.cellsOf 58)) = some y2 := t2
    rw [Try.cellsG] at e
    exact e
  clear t2
  obtain ⟨y3, hy3⟩ := hx 3 (by omega)
  have t3 := hall 3 _ rfl
  rw [hy3] at t3
  have u3 : DataW.trod enc Try.prog w base spare held n 3 [c18] = some y3 := by
    have e : DataW.trod enc Try.prog w base spare held n 3 ((List.drop 18 [c0, c1, c2, c3, c4, c5, c6, c7, c8, c9, c10, c11, c12, c13, c14, c15, c16, c17, c18, c19, c20]).take (Try.prog.cellsOf 3)) = some y3 := t3
    rw [Try.czint] at e
    exact e
  clear t3
  obtain ⟨y4, hy4⟩ := hx 4 (by omega)
  have t4 := hall 4 _ rfl
  rw [hy4] at t4
  have u4 : DataW.trod enc Try.prog w base spare held n 4 [c19] = some y4 := by
    have e : DataW.trod enc Try.prog w base spare held n 4 ((List.drop 19 [c0, c1, c2, c3, c4, c5, c6, c7, c8, c9, c10, c11, c12, c13, c14, c15, c16, c17, c18, c19, c20]).take (Try.prog.cellsOf 4)) = some y4 := t4
    rw [Try.czbool] at e
    exact e
  clear t4
  obtain ⟨y5, hy5⟩ := hx 5 (by omega)
  have t5 := hall 5 _ rfl
  rw [hy5] at t5
  have u5 : DataW.trod enc Try.prog w base spare held n 3 [c20] = some y5 := by
    have e : DataW.trod enc Try.prog w base spare held n 3 ((List.drop 20 [c0, c1, c2, c3, c4, c5, c6, c7, c8, c9, c10, c11, c12, c13, c14, c15, c16, c17, c18, c19, c20]).take (Try.prog.cellsOf 3)) = some y5 := t5
    rw [Try.czint] at e
    exact e
  clear t5
  obtain ⟨k, e0, _, w0⟩ := DataW.trod_int Try.underlying3 u0
  injection e0 with e0
  subst e0
  obtain ⟨a, e1, _, w1⟩ := DataW.trod_int Try.underlying3 u1
  injection e1 with e1
  subst e1
  obtain ⟨s, hs, he⟩ := rd_msg u2
  obtain ⟨nw, e3, _, w3⟩ := DataW.trod_int Try.underlying3 u3
  injection e3 with e3
  subst e3
  obtain ⟨on, e4, _⟩ := DataW.trod_bool Try.underlying4 u4
  injection e4 with e4
  subst e4
  obtain ⟨m, e5, _, w5⟩ := DataW.trod_int Try.underlying3 u5
  injection e5 with e5
  subst e5
  refine ⟨⟨k, a, s, nw, on, m⟩, ⟨in64_of w0, in64_of w1, hs, in64_of w3, in64_of w5⟩, ?_⟩
  show (.int .i64 k) :: (.int .i64 a) :: ([c2, c3, c4, c5, c6, c7, c8, c9, c10, c11, c12, c13, c14, c15, c16, c17] ++ [.int .i64 nw, .bool on, .int .i64 m]) = _
  rw [he]
  rfl
theorem opens_steps {a0 : Option Addr} {len cap : Nat} {d : DataW H} {p : List MemPlace} (h : DataW.Trod enc Try.prog w base spare held 49 (.slice a0 len cap) d p) : TArg w (.slice a0 len cap) len := by
  obtain ⟨fuel, hf⟩ := h
  rcases open_slice Try.underlying49 hf with ⟨hcs, _⟩ | ⟨a, len', cap', m, n, D, Pl, hcs, _, hl, _, hm, _, hi⟩
  · simp [Value.cells] at hcs
    obtain ⟨rfl, rfl, rfl⟩ := hcs
    exact .inl ⟨rfl, _, _, rfl⟩
  · simp [Value.cells] at hcs
    obtain ⟨rfl, rfl, rfl⟩ := hcs
    rcases Nat.eq_zero_or_pos len with h0 | h0
    · subst h0
      exact .inl ⟨rfl, _, _, rfl⟩
    have hlm : len ≤ m := by rw [hm]; split <;> omega
    have each : ∀ i, i < len → ∃ s : Stp, s.Ok w ∧ ∀ j x, (StC s).toList[j]? = some x → w.cell? ((a.add (i * 21)).add j) = some x := by
      intro i hil
      obtain ⟨cs', hc, ht⟩ := hi i (by omega)
      rw [Try.cellsS] at hc
      obtain ⟨_, hcl, hat⟩ := World.cells?_some hc
      obtain ⟨c0, c1, c2, c3, c4, c5, c6, c7, c8, c9, c10, c11, c12, c13, c14, c15, c16, c17, c18, c19, c20, rfl⟩ := array21L hcl
      obtain ⟨s, hs, he⟩ := rd_step ht
      rw [he] at hat
      exact ⟨s, hs, fun j x hx => (hat j (by have := List.getElem?_eq_some_iff.mp hx; obtain ⟨hj, _⟩ := this; simpa [StC] using hj)).trans hx⟩
    have : Inhabited Stp := ⟨⟨0, 0, ⟨⟨0, 0, 0, 0, 0, 0, 0, 0, 0, 0, 0, 0, 0, 0, 0, []⟩, none, 0, 0⟩, 0, true, 0⟩⟩
    obtain ⟨F, hF⟩ := choose_lt each
    obtain ⟨b, o, spot⟩ := a
    have hc0 : w.cell? ((Addr.add ⟨b, o, spot⟩ (0 * 21)).add 0) = some (.int .i64 (F 0).k) := (hF 0 h0).2 0 _ rfl
    have hspot : spot = none := by
      have := World.cell?_spot hc0
      simpa [Addr.add] using this
    subst hspot
    refine .inr ⟨h0, b, o, cap, F, rfl, ?_, fun k hk => ⟨(hF k hk).1, fun j x hx => ?_⟩⟩
    · have := block_of_cell hc0
      simpa [block_add] using this
    · have h1 := (hF k hk).2 j x hx
      rw [add_flat, add_flat] at h1
      exact h1
end

end Go.Proofs.Ytholemjbjmkpkaa
