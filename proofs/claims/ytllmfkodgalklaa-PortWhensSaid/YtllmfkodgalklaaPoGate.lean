/- A gate in memory: turn, At, Change. -/
import Derived.Test.YtllmfkodgalklaaPoClone
namespace Go.Proofs.Ytllmfkodgalklaa
open Go.RowKit Go.Joins

/-- All blocks but one are as they were. -/
structure ButB (b : Nat) (w w' : World) : Prop where
  os : w'.os = w.os
  tape : w'.tape = w.tape
  output : w'.output = w.output
  size : w.heap.size ≤ w'.heap.size
  block : ∀ k, k < w.heap.size → k ≠ b → w'.heap[k]? = w.heap[k]?
theorem ButB.refl (b : Nat) (w : World) : ButB b w w := ⟨rfl, rfl, rfl, Nat.le_refl _, fun _ _ _ => rfl⟩
theorem ButB.trans {b : Nat} {w w1 w2 : World} (h : ButB b w w1) (k : ButB b w1 w2) : ButB b w w2 :=
  ⟨k.os.trans h.os, k.tape.trans h.tape, k.output.trans h.output, Nat.le_trans h.size k.size, fun i hi hn => (k.block i (Nat.lt_of_lt_of_le hi h.size) hn).trans (h.block i hi hn)⟩
theorem ButB.of_below {b : Nat} {w w1 : World} (h : Below w.heap.size w w1) : ButB b w w1 := ⟨h.os, h.tape, h.output, h.size, fun k hk _ => h.block k hk⟩
theorem ButB.below {b B : Nat} {w w1 : World} (h : ButB b w w1) (hB : B ≤ b) (hb : b < w.heap.size) : Below B w w1 :=
  ⟨h.os, h.tape, h.output, h.size, fun k hk => h.block k (by omega) (by omega)⟩
theorem set_but {w : World} {b : Nat} (i : Nat) (v : Value) : ButB b w (w.setCell ⟨b, i, none⟩ v) := by
  have h1 : Below b w (w.setCell ⟨b, i, none⟩ v) := (Below.refl b w).setCell (Nat.le_refl _) v
  exact ⟨h1.os, h1.tape, h1.output, h1.size, fun k _ hn => heap_setCell_other w ⟨b, i, none⟩ k v hn⟩
theorem TArg.but {w w' : World} {k : Nat} {v : Value} {ts : List (Int × Int)} (h : TArg w v ts) (hb : ButB k w w') (hn : 0 < ts.length → v.ownBlock ≠ some k) : TArg w' v ts := by
  refine h.keep hb.size fun h0 b e => ?_
  have hlt : b < w.heap.size := by
    obtain ⟨b', o, c, rfl, _, hr⟩ := h.at h0
    simp [Value.ownBlock] at e
    rw [← e]; exact hr.1
  exact hb.block b hlt fun e' => hn h0 (by rw [← e']; exact e)

structure GS where
  b1 : Int
  c1 : Int
  s1 : Value
  b2 : Int
  c2 : Int
  s2 : Value
  fr : Int
  wt : Bool
def GS.due (g : GS) (x : Int) : Prop := g.wt = true ∧ g.fr ≤ x
instance (g : GS) (x : Int) : Decidable (g.due x) := by unfold GS.due; infer_instance
/-- The list that is to come holds, if its time has come. -/
def GS.turn (g : GS) (x : Int) : GS := if g.due x then ⟨g.b2, g.c2, g.s2, 0, 0, .slice none 0 0, 0, false⟩ else g
def GT (L : Nat) (W : World) (k : Nat) (g : GS) : Prop := W.heap[k]? = some (.cells #[.int .i64 g.b1, .int .i64 g.c1, g.s1, .int .i64 g.b2, .int .i64 g.c2, g.s2, .int .i64 g.fr, .bool g.wt, .pointer (some ⟨L, 0, none⟩)] 70 (0, 0))
theorem set8 {w : World} {k : Nat} {t : TypeId} {a0 a1 a2 a3 a4 a5 a6 a7 a8 : Value} (h : w.heap[k]? = some (.cells #[a0, a1, a2, a3, a4, a5, a6, a7, a8] t (0, 0))) (x0 x1 x2 x3 x4 x5 x6 x7 : Value) :
    ((((((((w.setCell ⟨k, 0, none⟩ x0).setCell ⟨k, 1, none⟩ x1).setCell ⟨k, 2, none⟩ x2).setCell ⟨k, 3, none⟩ x3).setCell ⟨k, 4, none⟩ x4).setCell ⟨k, 5, none⟩ x5).setCell ⟨k, 6, none⟩ x6).setCell ⟨k, 7, none⟩ x7).heap[k]? = some (.cells #[x0, x1, x2, x3, x4, x5, x6, x7, a8] t (0, 0)) := by
  have h0 : (w.setCell ⟨k, 0, none⟩ x0).heap[k]? = some (.cells #[x0, a1, a2, a3, a4, a5, a6, a7, a8] t (0, 0)) := heap_setCell_same w _ 0 _ _ x0 h
  have h1 : ((w.setCell ⟨k, 0, none⟩ x0).setCell ⟨k, 1, none⟩ x1).heap[k]? = some (.cells #[x0, x1, a2, a3, a4, a5, a6, a7, a8] t (0, 0)) := heap_setCell_same (w.setCell ⟨k, 0, none⟩ x0) _ 1 _ _ x1 h0
  have h2 : (((w.setCell ⟨k, 0, none⟩ x0).setCell ⟨k, 1, none⟩ x1).setCell ⟨k, 2, none⟩ x2).heap[k]? = some (.cells #[x0, x1, x2, a3, a4, a5, a6, a7, a8] t (0, 0)) := heap_setCell_same ((w.setCell ⟨k, 0, none⟩ x0).setCell ⟨k, 1, none⟩ x1) _ 2 _ _ x2 h1
  have h3 : ((((w.setCell ⟨k, 0, none⟩ x0).setCell ⟨k, 1, none⟩ x1).setCell ⟨k, 2, none⟩ x2).setCell ⟨k, 3, none⟩ x3).heap[k]? = some (.cells #[x0, x1, x2, x3, a4, a5, a6, a7, a8] t (0, 0)) := heap_setCell_same (((w.setCell ⟨k, 0, none⟩ x0).setCell ⟨k, 1, none⟩ x1).setCell ⟨k, 2, none⟩ x2) _ 3 _ _ x3 h2
  have h4 : (((((w.setCell ⟨k, 0, none⟩ x0).setCell ⟨k, 1, none⟩ x1).setCell ⟨k, 2, none⟩ x2).setCell ⟨k, 3, none⟩ x3).setCell ⟨k, 4, none⟩ x4).heap[k]? = some (.cells #[x0, x1, x2, x3, x4, a5, a6, a7, a8] t (0, 0)) := heap_setCell_same ((((w.setCell ⟨k, 0, none⟩ x0).setCell ⟨k, 1, none⟩ x1).setCell ⟨k, 2, none⟩ x2).setCell ⟨k, 3, none⟩ x3) _ 4 _ _ x4 h3
  have h5 : ((((((w.setCell ⟨k, 0, none⟩ x0).setCell ⟨k, 1, none⟩ x1).setCell ⟨k, 2, none⟩ x2).setCell ⟨k, 3, none⟩ x3).setCell ⟨k, 4, none⟩ x4).setCell ⟨k, 5, none⟩ x5).heap[k]? = some (.cells #[x0, x1, x2, x3, x4, x5, a6, a7, a8] t (0, 0)) := heap_setCell_same (((((w.setCell ⟨k, 0, none⟩ x0).setCell ⟨k, 1, none⟩ x1).setCell ⟨k, 2, none⟩ x2).setCell ⟨k, 3, none⟩ x3).setCell ⟨k, 4, none⟩ x4) _ 5 _ _ x5 h4
  have h6 : (((((((w.setCell ⟨k, 0, none⟩ x0).setCell ⟨k, 1, none⟩ x1).setCell ⟨k, 2, none⟩ x2).setCell ⟨k, 3, none⟩ x3).setCell ⟨k, 4, none⟩ x4).setCell ⟨k, 5, none⟩ x5).setCell ⟨k, 6, none⟩ x6).heap[k]? = some (.cells #[x0, x1, x2, x3, x4, x5, x6, a7, a8] t (0, 0)) := heap_setCell_same ((((((w.setCell ⟨k, 0, none⟩ x0).setCell ⟨k, 1, none⟩ x1).setCell ⟨k, 2, none⟩ x2).setCell ⟨k, 3, none⟩ x3).setCell ⟨k, 4, none⟩ x4).setCell ⟨k, 5, none⟩ x5) _ 6 _ _ x6 h5
  have h7 : ((((((((w.setCell ⟨k, 0, none⟩ x0).setCell ⟨k, 1, none⟩ x1).setCell ⟨k, 2, none⟩ x2).setCell ⟨k, 3, none⟩ x3).setCell ⟨k, 4, none⟩ x4).setCell ⟨k, 5, none⟩ x5).setCell ⟨k, 6, none⟩ x6).setCell ⟨k, 7, none⟩ x7).heap[k]? = some (.cells #[x0, x1, x2, x3, x4, x5, x6, x7, a8] t (0, 0)) := heap_setCell_same (((((((w.setCell ⟨k, 0, none⟩ x0).setCell ⟨k, 1, none⟩ x1).setCell ⟨k, 2, none⟩ x2).setCell ⟨k, 3, none⟩ x3).setCell ⟨k, 4, none⟩ x4).setCell ⟨k, 5, none⟩ x5).setCell ⟨k, 6, none⟩ x6) _ 7 _ _ x7 h6
  exact h7
/-- Its lists' slots are slices. -/
def GS.Sl (g : GS) : Prop := (∃ p n c, g.s1 = .slice p n c) ∧ ∃ p n c, g.s2 = .slice p n c
theorem GS.Sl.turn {g : GS} (h : g.Sl) (x : Int) : (g.turn x).Sl := by
  unfold GS.turn
  split
  · exact ⟨h.2, _, _, _, rfl⟩
  · exact h
section
variable {L : Nat} {W W' : World} {k : Nat} {g : GS}
theorem GT.below (h : GT L W k g) (hb : Below W.heap.size W W') : GT L W' k g := (hb.block k (lt_of_heap h)).trans h
theorem GT.but {j : Nat} (h : GT L W k g) (hb : ButB j W W') (hn : k ≠ j) : GT L W' k g := (hb.block k (lt_of_heap h) hn).trans h
theorem GT.cells (h : GT L W k g) : W.cell? ⟨k, 0, none⟩ = some (.int .i64 g.b1) ∧ W.cell? ⟨k, 1, none⟩ = some (.int .i64 g.c1) ∧ W.cell? ⟨k, 2, none⟩ = some g.s1 ∧ W.cell? ⟨k, 3, none⟩ = some (.int .i64 g.b2) ∧ W.cell? ⟨k, 4, none⟩ = some (.int .i64 g.c2) ∧ W.cell? ⟨k, 5, none⟩ = some g.s2 ∧ W.cell? ⟨k, 6, none⟩ = some (.int .i64 g.fr) ∧ W.cell? ⟨k, 7, none⟩ = some (.bool g.wt) :=
  ⟨cell_of_row _ _ _ _ _ _ h, cell_of_row _ _ _ _ _ _ h, cell_of_row _ _ _ _ _ _ h, cell_of_row _ _ _ _ _ _ h, cell_of_row _ _ _ _ _ _ h, cell_of_row _ _ _ _ _ _ h, cell_of_row _ _ _ _ _ _ h, cell_of_row _ _ _ _ _ _ h⟩
theorem GT.lan (h : GT L W k g) : W.cell? ⟨k, 8, none⟩ = some (.pointer (some ⟨L, 0, none⟩)) := cell_of_row _ _ _ _ _ _ h
theorem GT.frozen (h : GT L W k g) (i : Nat) : W.frozen? ⟨k, i, none⟩ = false := frozen_of_row _ _ _ _ _ h
theorem gturn_any (h : GT L W k g) (hs : g.Sl) (x : Int) :
    Calls Try.prog 51 #[.pointer (some ⟨k, 0, none⟩), .int .i64 x] W fun e w' => e = .returned (.tuple #[]) ∧ GT L w' k (g.turn x) ∧ ButB k W w' := by
  obtain ⟨c0, c1, c2, c3, c4, c5, c6, c7⟩ := h.cells
  have HG := Lib.hid h
  obtain ⟨⟨p1, n1, k1, e1⟩, p2, n2, k2, e2⟩ := hs
  rcases g with ⟨b1, cc1, s1, b2, cc2, s2, fr, wt⟩
  dsimp only at c0 c1 c2 c3 c4 c5 c6 c7 e1 e2
  subst e1 e2
  cases wt with
  | false =>
    rw [show GS.turn ⟨b1, cc1, .slice p1 n1 k1, b2, cc2, .slice p2 n2 k2, fr, false⟩ x = ⟨b1, cc1, .slice p1 n1 k1, b2, cc2, .slice p2 n2 k2, fr, false⟩ from if_neg (fun h => by cases h.1)]
    clear h
    go_enter Try.func51, Try.ntmps51
    go_wp2_with fail
    go_end0
    exact ⟨rfl, HG.out, ButB.refl _ _⟩
  | true =>
    by_cases hx : fr ≤ x
    · have d1 : decide (fr ≤ x) = true := decide_eq_true hx
      rw [show GS.turn ⟨b1, cc1, .slice p1 n1 k1, b2, cc2, .slice p2 n2 k2, fr, true⟩ x = ⟨b2, cc2, .slice p2 n2 k2, 0, 0, .slice none 0 0, 0, false⟩ from if_pos ⟨rfl, hx⟩]
      obtain ⟨f0, f1, f2, f3⟩ := (⟨h.frozen 0, h.frozen 1, h.frozen 2, h.frozen 3⟩ : _ ∧ _ ∧ _ ∧ _)
      obtain ⟨f4, f5, f6, f7⟩ := (⟨h.frozen 4, h.frozen 5, h.frozen 6, h.frozen 7⟩ : _ ∧ _ ∧ _ ∧ _)
      clear hx h
      go_enter Try.func51, Try.ntmps51
      go_wp2_with fail
      go_end0
      refine ⟨rfl, ?_, ?_⟩
      · exact set8 HG.out _ _ _ _ _ _ _ _
      · exact (set_but 0 _).trans ((set_but 1 _).trans ((set_but 2 _).trans ((set_but 3 _).trans ((set_but 4 _).trans ((set_but 5 _).trans ((set_but 6 _).trans (set_but 7 _)))))))
    · have d1 : decide (fr ≤ x) = false := decide_eq_false hx
      rw [show GS.turn ⟨b1, cc1, .slice p1 n1 k1, b2, cc2, .slice p2 n2 k2, fr, true⟩ x = ⟨b1, cc1, .slice p1 n1 k1, b2, cc2, .slice p2 n2 k2, fr, true⟩ from if_neg (fun h => hx h.2)]
      clear hx h
      go_enter Try.func51, Try.ntmps51
      go_wp2_with fail
      go_end0
      exact ⟨rfl, HG.out, ButB.refl _ _⟩
theorem bodyAt {R : Ending → World → Prop} {a : Act} {w : World} {g : Nat} {c0 c1 c2 : Value} {fr : Nat × Nat} (hp : a.tmps.getD 4 undef = .pointer (some ⟨g, 0, none⟩)) (hg : w.heap[g]? = some (.cells #[c0, c1, c2] 24 fr)) (hd : a.defers = [])
    (hR : R (.returned (.agg #[c0, c1, c2])) w) : bodyPost Try.prog Try.f32 R .ret a w := by
  refine bodyPost_ret (v := .agg #[c0, c1, c2]) ?_ hd hR
  have h := run_loadVar_row w g 24 24 #[c0, c1, c2] fr _ hg Try.underlying24 rfl (by kernel_rfl)
  have hp' : a.tmps[4]?.getD undef = .pointer (some ⟨g, 0, none⟩) := by simpa using hp
  simp [results, Try.results32, hp', asAddr, h]
theorem at_nil (W : World) (x : Int) :
    Calls Try.prog 32 #[.pointer none, .int .i64 x] W fun e w' => e = .returned (LV 0 0 (.slice none 0 0)) ∧ Below W.heap.size W w' := by
  have h2 := Lib.hid (heap_alloc_one W (.cells #[.int .i64 0, .int .i64 0, .slice none 0 0] 24))
  go_enter Try.func32, Try.ntmps32
  go_wp2_with fail
  exact bodyAt rfl h2.out rfl ⟨rfl, bAl (bRef W) _⟩
end

end Go.Proofs.Ytllmfkodgalklaa
