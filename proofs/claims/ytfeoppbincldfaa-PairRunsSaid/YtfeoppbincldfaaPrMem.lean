/- A pair of two clocks in memory; its small calls. -/
import Derived.Test.YtfeoppbincldfaaPsTe
namespace Go.Proofs.Ytfeoppbincldfaa
open Go.RowKit Go.Joins

/-- All blocks but these are as they were. -/
structure ButS (L : List Nat) (w w' : World) : Prop where
  os : w'.os = w.os
  tape : w'.tape = w.tape
  output : w'.output = w.output
  size : w.heap.size ≤ w'.heap.size
  block : ∀ k, k < w.heap.size → k ∉ L → w'.heap[k]? = w.heap[k]?
section
variable {L : List Nat} {w w1 w2 : World}
theorem ButS.refl (L : List Nat) (w : World) : ButS L w w := ⟨rfl, rfl, rfl, Nat.le_refl _, fun _ _ _ => rfl⟩
theorem ButS.trans (h : ButS L w w1) (k : ButS L w1 w2) : ButS L w w2 :=
  ⟨k.os.trans h.os, k.tape.trans h.tape, k.output.trans h.output, Nat.le_trans h.size k.size, fun i hi hn => (k.block i (Nat.lt_of_lt_of_le hi h.size) hn).trans (h.block i hi hn)⟩
theorem ButS.of_below (h : Below w.heap.size w w1) : ButS L w w1 := ⟨h.os, h.tape, h.output, h.size, fun k hk _ => h.block k hk⟩
theorem ButS.of_but {b : Nat} (h : ButB b w w1) (hb : b ∈ L) : ButS L w w1 := ⟨h.os, h.tape, h.output, h.size, fun k hk hn => h.block k hk (fun e => hn (e ▸ hb))⟩
theorem ButS.below {B : Nat} (h : ButS L w w1) (hL : ∀ k, k ∈ L → B ≤ k) (hs : B ≤ w.heap.size) : Below B w w1 :=
  ⟨h.os, h.tape, h.output, h.size, fun k hk => h.block k (by omega) (fun hm => by have := hL k hm; omega)⟩
theorem ButS.into {w0 : World} (h : ButS L w w1) (h0 : Below w0.heap.size w0 w) (hL : ∀ k, k ∈ L → w0.heap.size ≤ k) : Below w0.heap.size w0 w1 := h0.trans (h.below hL h0.size)
theorem ButS.mono {M : List Nat} (h : ButS L w w1) (hs : ∀ k, k ∈ L → k ∈ M) : ButS M w w1 := ⟨h.os, h.tape, h.output, h.size, fun k hk hn => h.block k hk (fun hm => hn (hs k hm))⟩
theorem ButS.drewN (h : ButS L w w1) (n : Nat) : ButS L w (w1.drewN n) := ⟨h.os, h.tape, h.output, h.size, h.block⟩
theorem ButS.drew (h : ButS L w w1) : ButS L w w1.drew := ⟨h.os, h.tape, h.output, h.size, h.block⟩
theorem Ck.butS {b : Nat} {s : CS} (h : Ck w b s) (hb : ButS L w w1) (hn : b ∉ L) : Ck w1 b s := (hb.block b h.lt hn).trans h
end
/-- A pair in plain numbers. -/
structure PP where
  a : CS
  b : CS
  most : Int
  root : Bool
  last : Int
def prow (k0 k1 : Nat) (s : PP) : Array Value := #[.pointer (some ⟨k0, 0, none⟩), .pointer (some ⟨k1, 0, none⟩), .int .i64 s.most, .bool s.root, .int .i64 s.last]
/-- A pair, and its two clocks. -/
structure Pw (w : World) (p k0 k1 : Nat) (s : PP) : Prop where
  box : w.heap[p]? = some (.cells (prow k0 k1 s) 121 (0, 0))
  c0 : Ck w k0 s.a
  c1 : Ck w k1 s.b
  ne : k0 ≠ k1
section
variable {w w' : World} {p k0 k1 : Nat} {s s' : PP}
theorem clock_ne (h : w.heap[p]? = some (.cells (prow k0 k1 s) 121 (0, 0))) {k : Nat} {c : CS} (hc : Ck w k c) : p ≠ k := fun e => by
  subst e
  unfold Ck at hc
  rw [h] at hc
  injection hc with hc
  injection hc with _ hc
  exact absurd hc (by decide)
theorem Pw.ne0 (h : Pw w p k0 k1 s) : p ≠ k0 := clock_ne h.box h.c0
theorem Pw.ne1 (h : Pw w p k0 k1 s) : p ≠ k1 := clock_ne h.box h.c1
theorem Pw.lt (h : Pw w p k0 k1 s) : p < w.heap.size := lt_of_heap h.box
theorem Pw.below (h : Pw w p k0 k1 s) (hb : Below w.heap.size w w') : Pw w' p k0 k1 s := ⟨(hb.block p h.lt).trans h.box, h.c0.below hb, h.c1.below hb, h.ne⟩
theorem Pw.butS {L : List Nat} (h : Pw w p k0 k1 s) (hb : ButS L w w') (hp : p ∉ L) (h0 : k0 ∉ L) (h1 : k1 ∉ L) : Pw w' p k0 k1 s := ⟨(hb.block p h.lt hp).trans h.box, h.c0.butS hb h0, h.c1.butS hb h1, h.ne⟩
theorem Pw.alloc (h : Pw w p k0 k1 s) (o : Obj) : Pw (w.alloc o) p k0 k1 s := h.below (bAl (bRef w) o)
theorem Pw.drewN (h : Pw w p k0 k1 s) (n : Nat) : Pw (w.drewN n) p k0 k1 s := ⟨h.box, h.c0, h.c1, h.ne⟩
theorem Pw.drew (h : Pw w p k0 k1 s) : Pw w.drew p k0 k1 s := ⟨h.box, h.c0, h.c1, h.ne⟩
theorem Pw.fz (h : Pw w p k0 k1 s) (i : Nat) : w.frozen? ⟨p, i, none⟩ = false := frozen_of_row _ _ _ _ _ h.box
theorem Pw.p0 (h : Pw w p k0 k1 s) : w.cell? ⟨p, 0, none⟩ = some (.pointer (some ⟨k0, 0, none⟩)) := cell_of_row w p 0 _ _ _ h.box
theorem Pw.p1 (h : Pw w p k0 k1 s) : w.cell? ⟨p, 1, none⟩ = some (.pointer (some ⟨k1, 0, none⟩)) := cell_of_row w p 1 _ _ _ h.box
theorem Pw.p2 (h : Pw w p k0 k1 s) : w.cell? ⟨p, 2, none⟩ = some (.int .i64 s.most) := cell_of_row w p 2 _ _ _ h.box
theorem Pw.p3 (h : Pw w p k0 k1 s) : w.cell? ⟨p, 3, none⟩ = some (.bool s.root) := cell_of_row w p 3 _ _ _ h.box
theorem Pw.p4 (h : Pw w p k0 k1 s) : w.cell? ⟨p, 4, none⟩ = some (.int .i64 s.last) := cell_of_row w p 4 _ _ _ h.box
/-- One of its own cells turns. -/
theorem Pw.set (h : Pw w p k0 k1 s) (i : Nat) (x : Value) (he : (prow k0 k1 s).setIfInBounds i x = prow k0 k1 s') (ha : s'.a = s.a) (hb : s'.b = s.b) : Pw (w.setCell ⟨p, i, none⟩ x) p k0 k1 s' := by
  have h1 := heap_setCell_same w p i _ _ x h.box
  rw [he] at h1
  have e0 := set_but (ButB.refl p w) i x
  refine ⟨h1, ?_, ?_, h.ne⟩
  · rw [ha]; exact h.c0.but e0 (Ne.symm h.ne0)
  · rw [hb]; exact h.c1.but e0 (Ne.symm h.ne1)
/-- Its first clock turns. -/
theorem Pw.turn0 (h : Pw w p k0 k1 s) {c : CS} (hl : LeaveC k0 w c w') : Pw w' p k0 k1 { s with a := c } := ⟨(hl.2.block p h.lt h.ne0).trans h.box, hl.1, h.c1.but hl.2 (Ne.symm h.ne), h.ne⟩
theorem Pw.turn1 (h : Pw w p k0 k1 s) {c : CS} (hl : LeaveC k1 w c w') : Pw w' p k0 k1 { s with b := c } := ⟨(hl.2.block p h.lt h.ne1).trans h.box, h.c0.but hl.2 h.ne, hl.1, h.ne⟩
theorem m0 : p ∈ [p, k0, k1] := by simp
theorem m1 : k0 ∈ [p, k0, k1] := by simp
theorem m2 : k1 ∈ [p, k0, k1] := by simp
end
/-- What a call over a pair leaves. -/
def LeaveP (p k0 k1 : Nat) (w : World) (s : PP) (w' : World) : Prop := Pw w' p k0 k1 s ∧ ButS [p, k0, k1] w w'
structure PP.Ok (s : PP) : Prop where
  a : s.a.Ok
  b : s.b.Ok
  da : s.a.dom = 0
  db : s.b.dom = 1
  most : In64 s.most
  last : s.last = -1 ∨ s.last = 0 ∨ s.last = 1
section
variable {w : World} {p k0 k1 : Nat} {s : PP}
theorem dom_any (d : Int) (w : World) : Calls Try.prog 45 #[.int .i64 d] w fun e w' => e = .returned (.bool (decide (d = 0) || decide (d = 1))) ∧ w' = w := by
  by_cases h1 : 0 ≤ d
  · have d1 : decide (0 ≤ d) = true := decide_eq_true h1
    by_cases h2 : d < 2
    · have d2 : decide (d < 2) = true := decide_eq_true h2
      have e : (decide (d = 0) || decide (d = 1)) = true := by
        rcases (show d = 0 ∨ d = 1 by omega) with rfl | rfl <;> rfl
      rw [e]
      go_enter Try.func45, Try.ntmps45
      go_wp2_with fail
      go_ret
      exact ⟨rfl, rfl⟩
    · have d2 : decide (d < 2) = false := decide_eq_false h2
      have e : (decide (d = 0) || decide (d = 1)) = false := by rw [decide_eq_false (by omega), decide_eq_false (by omega)]; rfl
      rw [e]
      go_enter Try.func45, Try.ntmps45
      go_wp2_with fail
      go_ret
      exact ⟨rfl, rfl⟩
  · have d1 : decide (0 ≤ d) = false := decide_eq_false h1
    have e : (decide (d = 0) || decide (d = 1)) = false := by rw [decide_eq_false (by omega), decide_eq_false (by omega)]; rfl
    rw [e]
    go_enter Try.func45, Try.ntmps45
    go_wp2_with fail
    go_ret
    exact ⟨rfl, rfl⟩
theorem clock_zero (h : Pw w p k0 k1 s) : Calls Try.prog 43 #[.pointer (some ⟨p, 0, none⟩), .int .i64 0] w fun e w' => e = .returned (.pointer (some ⟨k0, 0, none⟩)) ∧ w' = w := by
  have c := h.p0
  clear h
  go_enter Try.func43, Try.ntmps43
  go_wp2_with (go_at_call 45; (with_reducible refine (dom_any 0 _).mono ?_); rintro e w1 ⟨rfl, rfl⟩)
  go_ret
  exact ⟨rfl, rfl⟩
theorem clock_one (h : Pw w p k0 k1 s) : Calls Try.prog 43 #[.pointer (some ⟨p, 0, none⟩), .int .i64 1] w fun e w' => e = .returned (.pointer (some ⟨k1, 0, none⟩)) ∧ w' = w := by
  have c := h.p1
  clear h
  go_enter Try.func43, Try.ntmps43
  go_wp2_with (go_at_call 45; (with_reducible refine (dom_any 1 _).mono ?_); rintro e w1 ⟨rfl, rfl⟩)
  go_ret
  exact ⟨rfl, rfl⟩
theorem clock_out (p : Nat) (w : World) {d : Int} (hd : (decide (d = 0) || decide (d = 1)) = false) : Calls Try.prog 43 #[.pointer (some ⟨p, 0, none⟩), .int .i64 d] w fun e w' => e = .returned (.pointer none) ∧ w' = w := by
  have HD := fun W => dom_any d W
  rw [hd] at HD
  replace HD := Lib.hid HD
  clear hd
  go_enter Try.func43, Try.ntmps43
  go_wp2_with (go_at_call 45; (with_reducible refine (HD.out _).mono ?_); rintro e w1 ⟨rfl, rfl⟩)
  go_ret
  exact ⟨rfl, rfl⟩
theorem clock_nil (d : Int) (w : World) : Calls Try.prog 43 #[.pointer none, .int .i64 d] w fun e w' => e = .returned (.pointer none) ∧ w' = w := by
  go_enter Try.func43, Try.ntmps43
  go_wp2_with fail
  go_ret
  exact ⟨rfl, rfl⟩
/- A clock that is none. -/
theorem nil_fresh (x y : Int) (w : World) : Calls Try.prog 24 #[.pointer none, .int .i64 x, .int .i64 y] w fun e w' => e = .returned (.bool false) ∧ w' = w := by
  go_enter Try.func24, Try.ntmps24
  go_wp2_with fail
  go_ret
  exact ⟨rfl, rfl⟩
theorem nil_at (x : Int) (w : World) : Calls Try.prog 25 #[.pointer none, .int .i64 x] w fun e w' => e = .returned (.tuple #[.int .i64 0, .bool false]) ∧ w' = w := by
  go_enter Try.func25, Try.ntmps25
  go_wp2_with fail
  go_ret2
  exact ⟨rfl, rfl⟩
theorem nil_own (on : Bool) (x : Int) (w : World) : Calls Try.prog 30 #[.pointer none, .bool on, .int .i64 x] w fun e w' => e = .returned (.tuple #[]) ∧ w' = w := by
  go_enter Try.func30, Try.ntmps30
  go_wp2_with fail
  refine bodyPost_ret (results_none rfl _ _ _) rfl ?_
  exact ⟨rfl, rfl⟩
theorem nil_takes (m : Mg) (v : Value) (k : Int) (w : World) : Calls Try.prog 51 #[.pointer none, .agg (MC m v), .int .i64 k] w fun e w' => e = .returned (.bool false) ∧ Below w.heap.size w w' := by
  unfold MC
  go_enter Try.func51, Try.ntmps51
  go_wp2_with fail
  go_quiet (fail)
  go_wp2_with fail
  go_ret
  exact ⟨rfl, bDr (bAl (bRef w) _) _⟩
theorem nil_sync (m : Mg) (v : Value) (x : Int) (w : World) : Calls Try.prog 28 #[.pointer none, .agg (MC m v), .int .i64 x] w fun e w' => e = .returned (.int .i64 31) ∧ Below w.heap.size w w' := by
  have HT := Lib.hid (nil_takes m v 0 (w.alloc (.cells (MC m v) 37)))
  unfold MC
  go_enter Try.func28, Try.ntmps28
  go_wp2_with (first
    | ((with_reducible refine at_loadM ?_); refine wpList_loadM rfl _ rfl w.heap.size rfl (MC m v) _ (heap_alloc_new w _) rfl ?_)
    | (go_at_call 51; (refine HT.out.mono ?_); rintro e w1 ⟨rfl, hb⟩; have HB := Lib.hid (bTr (bAl (bRef w) _) hb); clear hb))
  go_ret
  exact ⟨rfl, HB.out⟩
end

end Go.Proofs.Ytfeoppbincldfaa
