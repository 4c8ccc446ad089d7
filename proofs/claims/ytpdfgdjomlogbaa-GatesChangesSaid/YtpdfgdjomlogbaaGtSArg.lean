/- An argument that is a row of steps, each with a list of gates: what is read of it. -/
import Derived.Test.YtpdfgdjomlogbaaGtArg
namespace Go.Proofs.Ytpdfgdjomlogbaa
open Go.RowKit Go.WideShapes Go.ChangeShapes Go.ChangeAt Go.Joins Go.Deep

structure SP where
  set : Bool
  b : Int
  c : Int
  sl : Value
  ts : List (Int × Int)
  now : Int
instance : Inhabited SP := ⟨⟨false, 0, 0, .slice none 0 0, [], 0⟩⟩
def SP.Ok (w : World) (s : SP) : Prop := In64 s.b ∧ In64 s.c ∧ In64 s.now ∧ TArg w s.sl s.ts
/-- The value's elements are these steps. -/
def SArg (w : World) (v : Value) (n : Nat) : Prop :=
  (n = 0 ∧ ∃ a c, v = .slice a 0 c) ∨ (0 < n ∧ ∃ b o c, ∃ F : Nat → SP, v = .slice (some ⟨b, o, none⟩) n c ∧ b < w.heap.size ∧ ∀ k, k < n → (F k).Ok w ∧
    w.cell? ⟨b, o + k * 5, none⟩ = some (.bool (F k).set) ∧ w.cell? ⟨b, o + k * 5 + 1, none⟩ = some (.int .i64 (F k).b) ∧ w.cell? ⟨b, o + k * 5 + 2, none⟩ = some (.int .i64 (F k).c) ∧ w.cell? ⟨b, o + k * 5 + 3, none⟩ = some (F k).sl ∧ w.cell? ⟨b, o + k * 5 + 4, none⟩ = some (.int .i64 (F k).now))
theorem SArg.slice {n : Nat} {w : World} {v : Value} (h : SArg w v n) : ∃ p c, v = .slice p n c := by
  rcases h with ⟨rfl, p, c, rfl⟩ | ⟨_, b, o, c, F, rfl, _⟩
  · exact ⟨p, c, rfl⟩
  · exact ⟨_, c, rfl⟩
theorem Try.czStep : Try.prog.cellsOf 51 = 5 := by kernel_rfl
theorem Try.czB : Try.prog.cellsOf 4 = 1 := by kernel_rfl
theorem five_of {l : List Value} (h : l.length = 5) : ∃ a b c d e, l = [a, b, c, d, e] := by
  match l, h with
  | [a, b, c, d, e], _ => exact ⟨a, b, c, d, e, rfl⟩
section
variable {H : Type} {enc : TypeId × Value → H} {w : World} {base : Nat} {spare : Nat → Bool} {held : Bool}
set_option maxHeartbeats 1000000 in
theorem rd_step {n : Nat} {c0 c1 c2 c3 c4 : Value} {x : DataW H × List MemPlace} (h : DataW.trod enc Try.prog w base spare held n 51 [c0, c1, c2, c3, c4] = some x) :
    ∃ s : SP, s.Ok w ∧ c0 = .bool s.set ∧ c1 = .int .i64 s.b ∧ c2 = .int .i64 s.c ∧ c3 = s.sl ∧ c4 = .int .i64 s.now := by
  obtain ⟨xs, m, _, _, _, hl, hall⟩ := DataW.trod_struct Try.underlying51 h
  have hx : ∀ i, i < 3 → ∃ y, xs[i]? = some y := fun i hi => ⟨xs[i]'(by rw [hl]; exact hi), List.getElem?_eq_getElem _⟩
  obtain ⟨y0, hy0⟩ := hx 0 (by omega)
  have t0 := hall 0 _ rfl
  rw [hy0] at t0
  have u0 : DataW.trod enc Try.prog w base spare held m 4 [c0] = some y0 := by
    have e : DataW.trod enc Try.prog w base spare held m 4 ((List.drop 0 [c0, c1, c2, c3, c4]).take (Try.prog.cellsOf 4)) = some y0 := t0
    rw [Try.czB] at e
    exact e
  clear t0
  obtain ⟨z0, g0, _⟩ := DataW.trod_bool Try.underlying4 u0
  obtain ⟨y1, hy1⟩ := hx 1 (by omega)
  have t1 := hall 1 _ rfl
  rw [hy1] at t1
  have u1 : DataW.trod enc Try.prog w base spare held m 24 [c1, c2, c3] = some y1 := by
    have e : DataW.trod enc Try.prog w base spare held m 24 ((List.drop 1 [c0, c1, c2, c3, c4]).take (Try.prog.cellsOf 24)) = some y1 := t1
    rw [Try.czList] at e
    exact e
  clear t1
  obtain ⟨b, c, ts, rfl, rfl, hb, hc, ht⟩ := rd_list u1
  obtain ⟨y2, hy2⟩ := hx 2 (by omega)
  have t2 := hall 2 _ rfl
  rw [hy2] at t2
  have u2 : DataW.trod enc Try.prog w base spare held m 3 [c4] = some y2 := by
    have e : DataW.trod enc Try.prog w base spare held m 3 ((List.drop 4 [c0, .int .i64 b, .int .i64 c, c3, c4]).take (Try.prog.cellsOf 3)) = some y2 := t2
    rw [Try.czI] at e
    exact e
  clear t2
  obtain ⟨z2, g2, _, w2⟩ := DataW.trod_int Try.underlying3 u2
  injection g2 with g2
  injection g0 with g0
  exact ⟨⟨z0, b, c, c3, ts, z2⟩, ⟨hb, hc, in_of_wf w2, ht⟩, g0, rfl, rfl, rfl, g2⟩
set_option maxRecDepth 100000 in
theorem opens_steps {a0 : Option Addr} {len cap : Nat} {d : DataW H} {p : List MemPlace} (h : DataW.Trod enc Try.prog w base spare held 46 (.slice a0 len cap) d p) : SArg w (.slice a0 len cap) len := by
  obtain ⟨fuel, hf⟩ := h
  rcases open_slice Try.underlying46 hf with ⟨hcs, _⟩ | ⟨a, len', cap', m, n, D, Pl, hcs, _, hl, _, hm, _, hi⟩
  · simp [Value.cells] at hcs
    obtain ⟨rfl, rfl, rfl⟩ := hcs
    exact .inl ⟨rfl, _, _, rfl⟩
  · simp [Value.cells] at hcs
    obtain ⟨rfl, rfl, rfl⟩ := hcs
    rcases Nat.eq_zero_or_pos len with h0 | h0
    · subst h0
      exact .inl ⟨rfl, _, _, rfl⟩
    have hlm : len ≤ m := by rw [hm]; split <;> omega
    have each : ∀ i, i < len → ∃ s : SP, s.Ok w ∧ w.cell? ((a.add (i * 5)).add 0) = some (.bool s.set) ∧ w.cell? ((a.add (i * 5)).add 1) = some (.int .i64 s.b) ∧ w.cell? ((a.add (i * 5)).add 2) = some (.int .i64 s.c) ∧ w.cell? ((a.add (i * 5)).add 3) = some s.sl ∧ w.cell? ((a.add (i * 5)).add 4) = some (.int .i64 s.now) := by
      intro i hil
      obtain ⟨cs', hc, ht⟩ := hi i (by omega)
      rw [Try.czStep] at hc
      obtain ⟨_, hcl, hat⟩ := World.cells?_some hc
      obtain ⟨c0, c1, c2, c3, c4, rfl⟩ := five_of hcl
      obtain ⟨s, hs, rfl, rfl, rfl, rfl, rfl⟩ := rd_step ht
      exact ⟨s, hs, hat 0 (by omega), hat 1 (by omega), hat 2 (by omega), hat 3 (by omega), hat 4 (by omega)⟩
    obtain ⟨F, hF⟩ := choose_lt each
    obtain ⟨b, o, spot⟩ := a
    have hspot : spot = none := by
      have := World.cell?_spot (hF 0 h0).2.1
      simpa [Addr.add] using this
    subst hspot
    refine .inr ⟨h0, b, o, cap, F, rfl, ?_, fun k hk => ?_⟩
    · have := block_of_cell (hF 0 h0).2.1
      simpa [block_add] using this
    · obtain ⟨f, f0, f1, f2, f3, f4⟩ := hF k hk
      rw [add_flat, add_flat] at f0 f1 f2 f3 f4
      exact ⟨f, f0, f1, f2, f3, f4⟩
end

end Go.Proofs.Ytpdfgdjomlogbaa
