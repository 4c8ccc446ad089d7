/- An argument that is a row of steps, each with a frame and a list of gates: what is read of it. -/
import Derived.Test.YtllmfkodgalklaaGtArg
namespace Go.Proofs.Ytllmfkodgalklaa
open Go.RowKit Go.WideShapes Go.ChangeShapes Go.ChangeAt Go.Joins Go.Deep

structure SP where
  k : Int
  cl : Int
  id : Int
  sz : Int
  dr : Bool
  d : Int
  b : Int
  c : Int
  sl : Value
  ts : List (Int × Int)
instance : Inhabited SP := ⟨⟨0, 0, 0, 0, false, 0, 0, 0, .slice none 0 0, []⟩⟩
structure SP.Ok (w : World) (s : SP) : Prop where
  ik : In64 s.k
  icl : In64 s.cl
  iid : In64 s.id
  isz : In64 s.sz
  idd : In64 s.d
  ib : In64 s.b
  ic : In64 s.c
  arg : TArg w s.sl s.ts
def SP.cells (s : SP) : List Value := [.int .i64 s.k, .int .i64 s.cl, .int .i64 s.id, .int .i64 s.sz, .bool s.dr, .int .i64 s.d, .int .i64 s.b, .int .i64 s.c, s.sl]
/-- The value's elements are these steps. -/
def SArg (w : World) (v : Value) (n : Nat) : Prop :=
  (n = 0 ∧ ∃ a c, v = .slice a 0 c) ∨ (0 < n ∧ ∃ b o c, ∃ F : Nat → SP, v = .slice (some ⟨b, o, none⟩) n c ∧ b < w.heap.size ∧ ∀ k, k < n → (F k).Ok w ∧ ∀ j, j < 9 → w.cell? ⟨b, o + k * 9 + j, none⟩ = (F k).cells[j]?)
theorem SArg.slice {n : Nat} {w : World} {v : Value} (h : SArg w v n) : ∃ p c, v = .slice p n c := by
  rcases h with ⟨rfl, p, c, rfl⟩ | ⟨_, b, o, c, F, rfl, _⟩
  · exact ⟨p, c, rfl⟩
  · exact ⟨_, c, rfl⟩
theorem SArg.at {n c : Nat} {w : World} {p : Option Addr} (h : SArg w (.slice p n c) n) (h0 : 0 < n) : ∃ b o, ∃ F : Nat → SP, p = some ⟨b, o, none⟩ ∧ b < w.heap.size ∧ ∀ k, k < n → (F k).Ok w ∧ ∀ j, j < 9 → w.cell? ⟨b, o + k * 9 + j, none⟩ = (F k).cells[j]? := by
  rcases h with ⟨e, _⟩ | ⟨_, b, o, c', F, e, h1, h2⟩
  · omega
  · injection e with e1 e2 e3
    exact ⟨b, o, F, e1, h1, h2⟩
theorem Try.czStep : Try.prog.cellsOf 48 = 9 := by kernel_rfl
theorem Try.czB : Try.prog.cellsOf 4 = 1 := by kernel_rfl
theorem Try.czIt : Try.prog.cellsOf 35 = 3 := by kernel_rfl
theorem nine_of {l : List Value} (h : l.length = 9) : ∃ a b c d e f g h i, l = [a, b, c, d, e, f, g, h, i] := by
  match l, h with
  | [a, b, c, d, e, f, g, h, i], _ => exact ⟨a, b, c, d, e, f, g, h, i, rfl⟩
section
variable {H : Type} {enc : TypeId × Value → H} {w : World} {base : Nat} {spare : Nat → Bool} {held : Bool}
set_option maxHeartbeats 1000000 in
theorem rd_item {n : Nat} {c0 c1 c2 : Value} {x : DataW H × List MemPlace} (h : DataW.trod enc Try.prog w base spare held n 35 [c0, c1, c2] = some x) :
    ∃ (z0 z1 : Int) (z2 : Bool), c0 = .int .i64 z0 ∧ c1 = .int .i64 z1 ∧ c2 = .bool z2 ∧ In64 z0 ∧ In64 z1 := by
  obtain ⟨xs, m, _, _, _, hl, hall⟩ := DataW.trod_struct Try.underlying35 h
  have hx : ∀ i, i < 3 → ∃ y, xs[i]? = some y := fun i hi => ⟨xs[i]'(by rw [hl]; exact hi), List.getElem?_eq_getElem _⟩
  obtain ⟨y0, hy0⟩ := hx 0 (by omega)
  have t0 := hall 0 _ rfl
  rw [hy0] at t0
  have u0 : DataW.trod enc Try.prog w base spare held m 3 [c0] = some y0 := by
    have e : DataW.trod enc Try.prog w base spare held m 3 ((List.drop 0 [c0, c1, c2]).take (Try.prog.cellsOf 3)) = some y0 := t0
    rw [Try.czI] at e
    exact e
  clear t0
  obtain ⟨y1, hy1⟩ := hx 1 (by omega)
  have t1 := hall 1 _ rfl
  rw [hy1] at t1
  have u1 : DataW.trod enc Try.prog w base spare held m 3 [c1] = some y1 := by
    have e : DataW.trod enc Try.prog w base spare held m 3 ((List.drop 1 [c0, c1, c2]).take (Try.prog.cellsOf 3)) = some y1 := t1
    rw [Try.czI] at e
    exact e
  clear t1
  obtain ⟨y2, hy2⟩ := hx 2 (by omega)
  have t2 := hall 2 _ rfl
  rw [hy2] at t2
  have u2 : DataW.trod enc Try.prog w base spare held m 4 [c2] = some y2 := by
    have e : DataW.trod enc Try.prog w base spare held m 4 ((List.drop 2 [c0, c1, c2]).take (Try.prog.cellsOf 4)) = some y2 := t2
    rw [Try.czB] at e
    exact e
  clear t2
  obtain ⟨z0, g0, _, w0⟩ := DataW.trod_int Try.underlying3 u0
  obtain ⟨z1, g1, _, w1⟩ := DataW.trod_int Try.underlying3 u1
  obtain ⟨z2, g2, _⟩ := DataW.trod_bool Try.underlying4 u2
  injection g0 with g0
  injection g1 with g1
  injection g2 with g2
  exact ⟨z0, z1, z2, g0, g1, g2, in_of_wf w0, in_of_wf w1⟩
set_option maxHeartbeats 1000000 in
theorem rd_step {n : Nat} {c0 c1 c2 c3 c4 c5 c6 c7 c8 : Value} {x : DataW H × List MemPlace} (h : DataW.trod enc Try.prog w base spare held n 48 [c0, c1, c2, c3, c4, c5, c6, c7, c8] = some x) :
    ∃ s : SP, s.Ok w ∧ [c0, c1, c2, c3, c4, c5, c6, c7, c8] = s.cells := by
  obtain ⟨xs, m, _, _, _, hl, hall⟩ := DataW.trod_struct Try.underlying48 h
  have hx : ∀ i, i < 5 → ∃ y, xs[i]? = some y := fun i hi => ⟨xs[i]'(by rw [hl]; exact hi), List.getElem?_eq_getElem _⟩
  obtain ⟨y0, hy0⟩ := hx 0 (by omega)
  have t0 := hall 0 _ rfl
  rw [hy0] at t0
  have u0 : DataW.trod enc Try.prog w base spare held m 3 [c0] = some y0 := by
    have e : DataW.trod enc Try.prog w base spare held m 3 ((List.drop 0 [c0, c1, c2, c3, c4, c5, c6, c7, c8]).take (Try.prog.cellsOf 3)) = some y0 := t0
    rw [Try.czI] at e
    exact e
  clear t0
  obtain ⟨y1, hy1⟩ := hx 1 (by omega)
  have t1 := hall 1 _ rfl
  rw [hy1] at t1
  have u1 : DataW.trod enc Try.prog w base spare held m 3 [c1] = some y1 := by
    have e : DataW.trod enc Try.prog w base spare held m 3 ((List.drop 1 [c0, c1, c2, c3, c4, c5, c6, c7, c8]).take (Try.prog.cellsOf 3)) = some y1 := t1
    rw [Try.czI] at e
    exact e
  clear t1
  obtain ⟨y2, hy2⟩ := hx 2 (by omega)
  have t2 := hall 2 _ rfl
  rw [hy2] at t2
  have u2 : DataW.trod enc Try.prog w base spare held m 35 [c2, c3, c4] = some y2 := by
    have e : DataW.trod enc Try.prog w base spare held m 35 ((List.drop 2 [c0, c1, c2, c3, c4, c5, c6, c7, c8]).take (Try.prog.cellsOf 35)) = some y2 := t2
    rw [Try.czIt] at e
    exact e
  clear t2
  obtain ⟨y3, hy3⟩ := hx 3 (by omega)
  have t3 := hall 3 _ rfl
  rw [hy3] at t3
  have u3 : DataW.trod enc Try.prog w base spare held m 3 [c5] = some y3 := by
    have e : DataW.trod enc Try.prog w base spare held m 3 ((List.drop 5 [c0, c1, c2, c3, c4, c5, c6, c7, c8]).take (Try.prog.cellsOf 3)) = some y3 := t3
    rw [Try.czI] at e
    exact e
  clear t3
  obtain ⟨y4, hy4⟩ := hx 4 (by omega)
  have t4 := hall 4 _ rfl
  rw [hy4] at t4
  have u4 : DataW.trod enc Try.prog w base spare held m 24 [c6, c7, c8] = some y4 := by
    have e : DataW.trod enc Try.prog w base spare held m 24 ((List.drop 6 [c0, c1, c2, c3, c4, c5, c6, c7, c8]).take (Try.prog.cellsOf 24)) = some y4 := t4
    rw [Try.czList] at e
    exact e
  clear t4
  obtain ⟨z0, g0, _, w0⟩ := DataW.trod_int Try.underlying3 u0
  obtain ⟨z1, g1, _, w1⟩ := DataW.trod_int Try.underlying3 u1
  obtain ⟨i0, i1, i2, rfl, rfl, rfl, hi0, hi1⟩ := rd_item u2
  obtain ⟨z3, g3, _, w3⟩ := DataW.trod_int Try.underlying3 u3
  obtain ⟨b, c, ts, rfl, rfl, hb, hc, ht⟩ := rd_list u4
  injection g0 with g0
  injection g1 with g1
  injection g3 with g3
  subst g0 g1 g3
  exact ⟨⟨z0, z1, i0, i1, i2, z3, b, c, c8, ts⟩, ⟨in_of_wf w0, in_of_wf w1, hi0, hi1, in_of_wf w3, hb, hc, ht⟩, rfl⟩
set_option maxRecDepth 100000 in
theorem opens_steps {a0 : Option Addr} {len cap : Nat} {d : DataW H} {p : List MemPlace} (h : DataW.Trod enc Try.prog w base spare held 25 (.slice a0 len cap) d p) : SArg w (.slice a0 len cap) len := by
  obtain ⟨fuel, hf⟩ := h
  rcases open_slice Try.underlying25 hf with ⟨hcs, _⟩ | ⟨a, len', cap', m, n, D, Pl, hcs, _, hl, _, hm, _, hi⟩
  · simp [Value.cells] at hcs
    obtain ⟨rfl, rfl, rfl⟩ := hcs
    exact .inl ⟨rfl, _, _, rfl⟩
  · simp [Value.cells] at hcs
    obtain ⟨rfl, rfl, rfl⟩ := hcs
    rcases Nat.eq_zero_or_pos len with h0 | h0
    · subst h0
      exact .inl ⟨rfl, _, _, rfl⟩
    have hlm : len ≤ m := by rw [hm]; split <;> omega
    have each : ∀ i, i < len → ∃ s : SP, s.Ok w ∧ ∀ j, j < 9 → w.cell? ((a.add (i * 9)).add j) = s.cells[j]? := by
      intro i hil
      obtain ⟨cs', hc, ht⟩ := hi i (by omega)
      rw [Try.czStep] at hc
      obtain ⟨_, hcl, hat⟩ := World.cells?_some hc
      obtain ⟨c0, c1, c2, c3, c4, c5, c6, c7, c8, rfl⟩ := nine_of hcl
      obtain ⟨s, hs, he⟩ := rd_step ht
      rw [he] at hat
      exact ⟨s, hs, fun j hj => hat j (by omega)⟩
    obtain ⟨F, hF⟩ := choose_lt each
    obtain ⟨b, o, spot⟩ := a
    have hc0 : w.cell? ((Addr.add ⟨b, o, spot⟩ (0 * 9)).add 0) = some (.int .i64 (F 0).k) := (hF 0 h0).2 0 (by omega)
    have hspot : spot = none := by
      have := World.cell?_spot hc0
      simpa [Addr.add] using this
    subst hspot
    refine .inr ⟨h0, b, o, cap, F, rfl, ?_, fun k hk => ⟨(hF k hk).1, fun j hj => ?_⟩⟩
    · have := block_of_cell hc0
      simpa [block_add] using this
    · have h1 := (hF k hk).2 j hj
      rw [add_flat, add_flat] at h1
      exact h1
end

end Go.Proofs.Ytllmfkodgalklaa
