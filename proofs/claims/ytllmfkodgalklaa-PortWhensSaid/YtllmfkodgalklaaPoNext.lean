/- Package port: Next. -/
import Derived.Test.YtllmfkodgalklaaPoNew
namespace Go.Proofs.Ytllmfkodgalklaa
open Go.RowKit Go.Joins

theorem bodyNext {R : Ending → World → Prop} {a : Act} {w : World} {g : Nat} {x y : Value} {c0 c1 c2 : Value} {fr : Nat × Nat} (hp : a.tmps.getD 4 undef = .pointer (some ⟨g, 0, none⟩)) (hy : a.tmps.getD 5 undef = y) (hx : a.tmps.getD 6 undef = x) (hg : w.heap[g]? = some (.cells #[c0, c1, c2] 35 fr)) (hd : a.defers = [])
    (hR : R (.returned (.tuple #[.agg #[c0, c1, c2], y, x])) w) : bodyPost Try.prog Try.f11 R .ret a w := by
  refine bodyPost_ret (v := .tuple #[.agg #[c0, c1, c2], y, x]) ?_ hd hR
  have h := run_loadVar_row w g 35 35 #[c0, c1, c2] fr _ hg Try.underlying35 rfl (by kernel_rfl)
  simp only [results, Try.results11]
  have hp' : a.tmps[4]?.getD undef = .pointer (some ⟨g, 0, none⟩) := by simpa using hp
  have hx' : a.tmps[6]?.getD undef = x := by simpa using hx
  have hy' : a.tmps[5]?.getD undef = y := by simpa using hy
  simp [hp', hx', hy', asAddr, h]
/-- For how long each class may go out from a time on. -/
def leftOf (p : PL) (x : Int) : Nat → Int := leftP (p.turn x).wt (p.turn x).fr (p.turn x).b1 (p.turn x).c1 (p.turn x).t1 x
section
variable {x : Int} {w0 W W' W0 V : World} {k L : Nat} {F F' : Nat → Prop} {p p' : PL} {s s' : LS}
theorem PLeft.lan (h : PLeft w0 W0 k L F p s V) : V.cell? ⟨k, 8, none⟩ = some (.pointer (some ⟨L, 0, none⟩)) := by obtain ⟨F', h, _⟩ := h; exact h.lan
theorem PLeft.kept (h : PLeft w0 W0 k L F p s V) {j : Nat} {o : Obj} (ho : W0.heap[j]? = some o) (h1 : j ≠ k) (h2 : ¬ F j) : V.heap[j]? = some o := by
  obtain ⟨F', _, _, hb⟩ := h
  exact hb.kept ho fun e => e.elim h1 h2
theorem PLeft.trans2 (hs : ∀ j, F' j → F j ∨ W0.heap.size ≤ j) (hb : ButP (fun j => j = k ∨ F j) W0 V) (ht : ∀ j, F' j → j < V.heap.size) (h2 : PLeft w0 V k L F' p s W') : PLeft w0 W0 k L F p s W' := by
  obtain ⟨F2, b1, b2, b3⟩ := h2
  refine ⟨F2, b1, fun j hj => ?_, hb.trans (b3.mono fun j hj => ?_)⟩
  · rcases b2 j hj with e | e
    · exact hs j e
    · exact .inr (Nat.le_trans hb.size e)
  · rcases hj with e | e
    · exact .inl (.inl e)
    · rcases hs j e with e2 | e2
      · exact .inl (.inr e2)
      · exact .inr ⟨e2, ht j e⟩
theorem pat (h : PoL w0 W k L F p s) (x : Int) : Calls Try.prog 32 #[.pointer (some ⟨k, 0, none⟩), .int .i64 x] W fun e w' => ∃ q cp, e = .returned (LV (p.turn x).b1 (p.turn x).c1 (.slice q (p.turn x).t1.length cp)) ∧ TArg w' (.slice q (p.turn x).t1.length cp) (p.turn x).t1 ∧ PLeft w0 W k L F (p.turn x) s w' := by
  obtain ⟨g, hg⟩ := h.gs
  have hT := hg.turned x (show ButB k W W from ButB.refl _ _)
  refine (at_some hg.gt hg.sl x (p.turn x).t1 hT.a1 (fun h0 e => (hT.n1 h0 k e).1 rfl) (by have := (h.fine.turn x).l1; omega) rfl).mono fun e w' hh => ?_
  obtain ⟨q, cp, e1, _, e3, e4, e5⟩ := hh
  rw [hT.e1, hT.e2] at e1
  exact ⟨q, cp, e1, e3, PLeft.gate h e5 (hg.turn x e4 e5) (h.fine.turn x)⟩
theorem patL (h : PLeft w0 W0 k L F p s V) (x : Int) : Calls Try.prog 32 #[.pointer (some ⟨k, 0, none⟩), .int .i64 x] V fun e w' => ∃ q cp, e = .returned (LV (p.turn x).b1 (p.turn x).c1 (.slice q (p.turn x).t1.length cp)) ∧ TArg w' (.slice q (p.turn x).t1.length cp) (p.turn x).t1 ∧ PLeft w0 W0 k L F (p.turn x) s w' := by
  obtain ⟨F1, h1, h2, h3⟩ := h
  refine (pat h1 x).mono fun e w' hh => ?_
  obtain ⟨q, cp, e1, e2, e3⟩ := hh
  exact ⟨q, cp, e1, e2, PLeft.trans2 h2 h3 (fun j hj => by obtain ⟨sl, hl⟩ := h1.ln.ln; exact hl.top j hj) e3⟩
theorem pleftL (h : PLeft w0 W0 k L F p s V) (b c : Int) (sl : Value) (ts : List (Int × Int)) (ht : TArg V sl ts) (x : Int) (hx : inNow x) : Calls Try.prog 31 #[.pointer (some ⟨k, 0, none⟩), LV b c sl, .int .i64 x] V fun e w' => e = .returned (a8 (leftP p.wt p.fr b c ts x)) ∧ Below V.heap.size V w' ∧ PLeft w0 W0 k L F p s w' := by
  have h' := h
  obtain ⟨F1, h1, h2, h3⟩ := h'
  exact (pleft_any h1 b c sl ts ht x hx).mono fun e w' ⟨e1, e2⟩ => ⟨e1, e2, h.below e2⟩
/-- What Pick does in such lanes, wherever they lie. -/
def Picks (L : Nat) (s : LS) (left : Nat → Int) (cv : Int) (it : It) (ok : Bool) (s' : LS) : Prop :=
  (∀ (w0 V : World) (F : Nat → Prop), LnB w0 V L F s → s.Good → Calls Try.prog 22 #[.pointer (some ⟨L, 0, none⟩), a8 left] V fun e w' => e = .returned (.tuple #[.int .i64 cv, itv it, .bool ok]) ∧ Left w0 V L F s' w') ∧ (s.Good → s'.Good) ∧ s'.r = s.r
theorem Picks.none {L : Nat} {s : LS} {left : Nat → Int} (hn : ∀ c, c < 8 → ¬ fits s left c) : Picks L s left 0 it0 false s := ⟨fun _ _ _ h G => pickB_none h G hn, fun h => h, rfl⟩
theorem Picks.some {L : Nat} {s : LS} {left : Nat → Int} {c : Nat} {y : It} {R : List It} (hc : c < 8) (hq : s.q c = y :: R) (hx : 8 * y.2.1 ≤ left c) (hm : ∀ d, c < d → d < 8 → ¬ fits s left d) : Picks L s left (c : Int) y true { s with q := upd s.q c R } :=
  ⟨fun _ _ _ h G => pickB_some h G hc hq hx hm, fun G => G.pop hc hq, rfl⟩
theorem ppickL {left : Nat → Int} {cv : Int} {it : It} {ok : Bool} (hk : Picks L s left cv it ok s') (h : PLeft w0 W0 k L F p s V) : Calls Try.prog 22 #[.pointer (some ⟨L, 0, none⟩), a8 left] V fun e w' => e = .returned (.tuple #[.int .i64 cv, itv it, .bool ok]) ∧ PLeft w0 W0 k L F p s' w' := by
  obtain ⟨F1, h1, h2, h3⟩ := h
  refine (hk.1 w0 V F1 h1.ln h1.gd).mono fun e w' hh => ?_
  exact ⟨hh.1, PLeft.trans2 h2 h3 (fun j hj => by obtain ⟨sl, hl⟩ := h1.ln.ln; exact hl.top j hj) (PLeft.lanes h1 hh.2 (hk.2.1 h1.gd) (by rw [hk.2.2]; exact h1.ok))⟩
theorem pleftX (h : PLeft w0 W0 k L F (p.turn x) s V) (q : Option Addr) (cp : Nat) (ht : TArg V (.slice q (p.turn x).t1.length cp) (p.turn x).t1) (hx : inNow x) : Calls Try.prog 31 #[.pointer (some ⟨k, 0, none⟩), LV (p.turn x).b1 (p.turn x).c1 (.slice q (p.turn x).t1.length cp), .int .i64 x] V fun e w' => e = .returned (a8 (leftOf p x)) ∧ Below V.heap.size V w' ∧ PLeft w0 W0 k L F (p.turn x) s w' :=
  pleftL h _ _ _ _ ht x hx
theorem ppickX {left : Nat → Int} {cv i0 i1 : Int} {i2 ok : Bool} (hk : Picks L s left cv (i0, i1, i2) ok s') (h : PLeft w0 W0 k L F p s V) : Calls Try.prog 22 #[.pointer (some ⟨L, 0, none⟩), a8 left] V fun e w' => e = .returned (.tuple #[.int .i64 cv, .agg #[.int .i64 i0, .int .i64 i1, .bool i2], .bool ok]) ∧ PLeft w0 W0 k L F p s' w' :=
  ppickL hk h
/-- With a new box: what is kept from here on. -/
structure Rebase (w0 W0 V : World) (k L : Nat) (F F1 : Nat → Prop) (p : PL) (s : LS) (o : Obj) : Prop where
  h : PLeft w0 (V.alloc o) k L F1 p s (V.alloc o)
  hs : ∀ j, F1 j → F j ∨ W0.heap.size ≤ j
  hb : ButP (fun j => j = k ∨ F j) W0 (V.alloc o)
  ht : ∀ j, F1 j → j < (V.alloc o).heap.size
  h1 : V.heap.size ≠ k
  h2 : ¬ F1 V.heap.size
  low : W0.heap.size ≤ V.heap.size
  box : (V.alloc o).heap[V.heap.size]? = some o
theorem PLeft.rebase (h : PLeft w0 W0 k L F p s V) (o : Obj) : ∃ F1, Rebase w0 W0 V k L F F1 p s o := by
  obtain ⟨F1, h1, h2, h3⟩ := h
  obtain ⟨sl, hl⟩ := h1.ln.ln
  have hb := bAl (bRef V) o
  exact ⟨F1, PLeft.refl (h1.below hb), h2, h3.trans (.of_below hb), fun j hj => by have := hl.top j hj; have := hb.size; omega, by have := h1.klt; omega, fun e => by have := hl.top _ e; omega, h3.size, heap_alloc_one V o⟩
theorem PLeft.fin {Wb : World} {F1 : Nat → Prop} {bx : Nat} {cs : Array Value} {T : TypeId} {fr : Nat × Nat} (h : PLeft w0 Wb k L F1 p s V) (hs : ∀ j, F1 j → F j ∨ W.heap.size ≤ j) (hb : ButP (fun j => j = k ∨ F j) W Wb) (ht : ∀ j, F1 j → j < Wb.heap.size)
    (hg : Wb.heap[bx]? = some (.cells cs T fr)) (hT : T ≠ 64) (h1 : bx ≠ k) (h2 : ¬ F1 bx) (hlow : W.heap.size ≤ bx) (hw : w0.heap.size ≤ bx) (hbb : ButB bx V W') : PLeft w0 W k L F p s W' := by
  obtain ⟨F2, b1, b2, b3⟩ := h
  have hlt := lt_of_heap hg
  have hn : ¬ F2 bx := fun e => by
    rcases b2 bx e with e | e
    · exact h2 e
    · omega
  refine ⟨F2, b1.other (b3.kept hg fun e => e.elim h1 h2) hT h1 hn hw hbb, fun j hj => ?_, ⟨hbb.os.trans (b3.os.trans hb.os), hbb.tape.trans (b3.tape.trans hb.tape), hbb.output.trans (b3.output.trans hb.output), Nat.le_trans hb.size (Nat.le_trans b3.size hbb.size), fun j hj hnj => ?_⟩⟩
  · rcases b2 j hj with e | e
    · exact hs j e
    · exact .inr (Nat.le_trans hb.size e)
  · have h3 := hb.size
    have h4 := b3.size
    rw [hbb.block j (by omega) (by omega), b3.block j (by omega) (fun e => e.elim (fun e => hnj (.inl e)) (fun e => (hs j e).elim (fun e => hnj (.inr e)) (fun e => by omega))), hb.block j hj hnj]
theorem set3_at {w : World} {g : Nat} {c0 c1 c2 : Value} {t : TypeId} (h : w.heap[g]? = some (.cells #[c0, c1, c2] t (0, 0))) (x0 x1 x2 : Value) : (((w.setCell ⟨g, 0, none⟩ x0).setCell ⟨g, 1, none⟩ x1).setCell ⟨g, 2, none⟩ x2).heap[g]? = some (.cells #[x0, x1, x2] t (0, 0)) :=
  heap_setCell_same _ _ 2 _ _ _ (heap_setCell_same _ _ 1 _ _ _ (heap_setCell_same _ _ 0 _ _ _ h))
theorem set3_off {w : World} {g j : Nat} (hj : j ≠ g) (x0 x1 x2 : Value) : (((w.setCell ⟨g, 0, none⟩ x0).setCell ⟨g, 1, none⟩ x1).setCell ⟨g, 2, none⟩ x2).heap[j]? = w.heap[j]? := by
  rw [heap_setCell_other _ _ _ _ hj, heap_setCell_other _ _ _ _ hj, heap_setCell_other _ _ _ _ hj]
theorem but3 {w : World} {g : Nat} (x0 x1 x2 : Value) : ButB g w (((w.setCell ⟨g, 0, none⟩ x0).setCell ⟨g, 1, none⟩ x1).setCell ⟨g, 2, none⟩ x2) := (set_but 0 _).trans ((set_but 1 _).trans (set_but 2 _))
set_option maxHeartbeats 4000000 in
theorem pnext_gen (h : PoL w0 W k L F p s) (hlow : w0.heap.size ≤ W.heap.size) (x : Int) (hx : inNow x) {cv i0 i1 : Int} {i2 ok : Bool} (hk : Picks L s (leftOf p x) cv (i0, i1, i2) ok s') : Calls Try.prog 11 #[.pointer (some ⟨k, 0, none⟩), .int .i64 x] W fun e w' => e = .returned (.tuple #[.agg #[.int .i64 i0, .int .i64 i1, .bool i2], .int .i64 cv, .bool ok]) ∧ PLeft w0 W k L F (p.turn x) s' w' := by
  have HT := Lib.hid (fun W => isTime_any x W)
  rw [decide_eq_true hx] at HT
  have HX := Lib.hid hx
  have HK := Lib.hid hk
  have hb1 : Below W.heap.size W (W.alloc (.cells #[.int .i64 0, .int .i64 0, .bool false] 35)).drew := (bAl (bRef W) (.cells #[.int .i64 0, .int .i64 0, .bool false] 35)).trans (bDr1 ((bRef (W.alloc (.cells #[.int .i64 0, .int .i64 0, .bool false] 35))).mono (by simp)))
  have HB1 := Lib.hid hb1
  have HN := Lib.hid (PLeft.refl (h.below hb1))
  have HR0 : Hid ((W.alloc (.cells #[.int .i64 0, .int .i64 0, .bool false] 35)).drew.heap[W.heap.size]? = some (.cells #[.int .i64 0, .int .i64 0, .bool false] 35)) := Lib.hid (heap_alloc_one W (.cells #[.int .i64 0, .int .i64 0, .bool false] 35))
  have HKW := Lib.hid h.klt
  have HFW : Hid (∀ j, F j → j < W.heap.size) := Lib.hid (by obtain ⟨sl, hl⟩ := h.ln.ln; exact hl.top)
  have HSW : Hid ((W.alloc (.cells #[.int .i64 0, .int .i64 0, .bool false] 35)).drew.heap.size = W.heap.size + 1) := Lib.hid (by simp)
  have HLW := Lib.hid hlow
  have hdata := h.lan
  clear h hx hk hb1 hlow
  go_enter Try.func11, Try.ntmps11
  go_wp2_with (go_at_call 30; (with_reducible refine (HT.out _).mono ?_); rintro e w1 ⟨rfl, rfl⟩)
  refine wp_region_held_drew (S := fun V => V.cell? ⟨k, 8, none⟩ = some (.pointer (some ⟨L, 0, none⟩))) (by kernel_rfl) HN.out.lan (fun h0 => ?_)
  refine hTakeS (i := 0) (k := 19) (v := .pointer (some ⟨k, 0, none⟩)) rfl rfl (by kernel_rfl) (by kernel_rfl) (by kernel_rfl) (fun _ _ _ h => h) (yieldsIf_val (by rfl) (by intro W; go_simp)) h0 ?_
  simp only [List.setIfInBounds_toArray, List.set_cons_zero, List.set_cons_succ]
  refine hTakeS (i := 1) (k := 20) (v := .pointer (some ⟨k, 0, none⟩)) rfl rfl (by kernel_rfl) (by kernel_rfl) (by kernel_rfl) (fun _ _ _ h => h) (yieldsIf_val (by rfl) (by intro W; go_simp)) h0 ?_
  simp only [List.setIfInBounds_toArray, List.set_cons_zero, List.set_cons_succ]
  refine hTakeS (i := 2) (k := 21) (v := .pointer (some ⟨k, 8, none⟩)) rfl rfl (by kernel_rfl) (by kernel_rfl) (by kernel_rfl) (fun _ _ _ h => h) (yieldsIf_val (by rfl) (by intro W; go_simp)) h0 ?_
  simp only [List.setIfInBounds_toArray, List.set_cons_zero, List.set_cons_succ]
  refine hTakeS (i := 3) (k := 22) (v := .pointer (some ⟨L, 0, none⟩)) rfl rfl (by kernel_rfl) (by kernel_rfl) (by kernel_rfl) (fun _ _ _ h => h) (.inl ⟨by rfl, fun W hW => by go_simp⟩) h0 ?_
  simp only [List.setIfInBounds_toArray, List.set_cons_zero, List.set_cons_succ]
  refine hTakeS (i := 4) (k := 23) (v := .pointer (some ⟨k, 0, none⟩)) rfl rfl (by kernel_rfl) (by kernel_rfl) (by kernel_rfl) (fun _ _ _ h => h) (yieldsIf_val (by rfl) (by intro W; go_simp)) h0 ?_
  simp only [List.setIfInBounds_toArray, List.set_cons_zero, List.set_cons_succ]
  refine hTakeS (i := 5) (k := 24) (v := .pointer (some ⟨k, 0, none⟩)) rfl rfl (by kernel_rfl) (by kernel_rfl) (by kernel_rfl) (fun _ _ _ h => h) (yieldsIf_val (by rfl) (by intro W; go_simp)) h0 ?_
  simp only [List.setIfInBounds_toArray, List.set_cons_zero, List.set_cons_succ]
  refine hTakeS (i := 6) (k := 25) (v := .pointer (some ⟨k, 0, none⟩)) rfl rfl (by kernel_rfl) (by kernel_rfl) (by kernel_rfl) (fun _ _ _ h => h) (yieldsIf_val (by rfl) (by intro W; go_simp)) h0 ?_
  simp only [List.setIfInBounds_toArray, List.set_cons_zero, List.set_cons_succ]
  refine hTakeS (i := 7) (k := 26) (v := .pointer (some ⟨k, 0, none⟩)) rfl rfl (by kernel_rfl) (by kernel_rfl) (by kernel_rfl) (fun _ _ _ h => h) (yieldsIf_val (by rfl) (by intro W; go_simp)) h0 ?_
  simp only [List.setIfInBounds_toArray, List.set_cons_zero, List.set_cons_succ]
  refine hTakeS (i := 8) (k := 27) (v := .int .i64 x) rfl rfl (by kernel_rfl) (by kernel_rfl) (by kernel_rfl) (fun _ _ _ h => h) (yieldsIf_val (by rfl) (by intro W; go_simp)) h0 ?_
  simp only [List.setIfInBounds_toArray, List.set_cons_zero, List.set_cons_succ]
  refine hTakeS (i := 10) (k := 29) (v := .int .i64 x) rfl rfl (by kernel_rfl) (by kernel_rfl) (by kernel_rfl) (fun _ _ _ h => h) (yieldsIf_val (by rfl) (by intro W; go_simp)) h0 ?_
  simp only [List.setIfInBounds_toArray, List.set_cons_zero, List.set_cons_succ]
  obtain ⟨F1, N1⟩ := HN.out.rebase (.cells #[.int .i64 0, .int .i64 0, .bool false] 35)
  have r1 := N1.h
  refine hCallOr (i := 9) (j := 17) (k := 28) (m := 8) (w2 := (W.alloc (.cells #[.int .i64 0, .int .i64 0, .bool false] 35)).drew.alloc (.cells #[.int .i64 0, .int .i64 0, .bool false] 35)) (u := .pointer (some ⟨(W.alloc (.cells #[.int .i64 0, .int .i64 0, .bool false] 35)).drew.heap.size, 0, none⟩)) (by kernel_rfl) rfl rfl rfl rfl (by rfl) (by rfl) 32 #[.pointer (some ⟨k, 0, none⟩), .int .i64 x] (by go_simp) (patL HN.out x) (by go_simp) r1.lan ?_ ?_
  · rintro e V1 ⟨q, cp, rfl, hta, g1⟩
    refine ⟨_, rfl, g1.lan, ?_⟩
    simp only [List.setIfInBounds_toArray, List.set_cons_zero, List.set_cons_succ]
    obtain ⟨F2, N2⟩ := g1.rebase (.cells #[.int .i64 0, .int .i64 0, .bool false] 35)
    have r2 := N2.h
    refine hCallOr (i := 11) (j := 17) (k := 30) (m := 8) (w2 := V1.alloc (.cells #[.int .i64 0, .int .i64 0, .bool false] 35)) (u := .pointer (some ⟨V1.heap.size, 0, none⟩)) (by kernel_rfl) rfl rfl rfl rfl (by rfl) (by rfl) 31 #[.pointer (some ⟨k, 0, none⟩), LV (p.turn x).b1 (p.turn x).c1 (.slice q (p.turn x).t1.length cp), .int .i64 x] (by go_simp) (pleftX g1 q cp hta HX.out) (by go_simp) r2.lan ?_ ?_
    · rintro e V2 ⟨rfl, -, g2⟩
      refine ⟨_, rfl, g2.lan, ?_⟩
      simp only [List.setIfInBounds_toArray, List.set_cons_zero, List.set_cons_succ]
      obtain ⟨F3, N3⟩ := g2.rebase (.cells #[.int .i64 0, .int .i64 0, .bool false] 35)
      have r3 := N3.h
      refine hCallOr (i := 12) (j := 17) (k := 31) (m := 8) (w2 := V2.alloc (.cells #[.int .i64 0, .int .i64 0, .bool false] 35)) (u := .pointer (some ⟨V2.heap.size, 0, none⟩)) (by kernel_rfl) rfl rfl rfl rfl (by rfl) (by rfl) 22 #[.pointer (some ⟨L, 0, none⟩), a8 (leftOf p x)] (by go_simp) (ppickX HK.out g2) (by go_simp) r3.lan ?_ ?_
      · rintro e V3 ⟨rfl, g3⟩
        refine ⟨_, rfl, g3.lan, ?_⟩
        simp only [List.setIfInBounds_toArray, List.set_cons_zero, List.set_cons_succ]
        refine hTakeS (i := 13) (k := 18) (v := .tuple #[.int .i64 cv, .agg #[.int .i64 i0, .int .i64 i1, .bool i2], .bool ok]) rfl rfl (by kernel_rfl) (by kernel_rfl) (by kernel_rfl) (fun _ _ _ h => h) (yieldsIf_val (by rfl) (by intro W; go_simp)) g3.lan ?_
        simp only [List.setIfInBounds_toArray, List.set_cons_zero, List.set_cons_succ]
        refine hTakeS (i := 14) (k := 32) (v := .int .i64 cv) rfl rfl (by kernel_rfl) (by kernel_rfl) (by kernel_rfl) (fun _ _ _ h => h) (yieldsIf_val (by rfl) (by intro W; go_simp)) g3.lan ?_
        simp only [List.setIfInBounds_toArray, List.set_cons_zero, List.set_cons_succ]
        refine hTakeS (i := 15) (k := 33) (v := .agg #[.int .i64 i0, .int .i64 i1, .bool i2]) rfl rfl (by kernel_rfl) (by kernel_rfl) (by kernel_rfl) (fun _ _ _ h => h) (yieldsIf_val (by rfl) (by intro W; go_simp)) g3.lan ?_
        simp only [List.setIfInBounds_toArray, List.set_cons_zero, List.set_cons_succ]
        refine hTakeS (i := 16) (k := 34) (v := .bool ok) rfl rfl (by kernel_rfl) (by kernel_rfl) (by kernel_rfl) (fun _ _ _ h => h) (yieldsIf_val (by rfl) (by intro W; go_simp)) g3.lan ?_
        simp only [List.setIfInBounds_toArray, List.set_cons_zero, List.set_cons_succ]
        obtain ⟨F4, N4⟩ := g3.rebase (.cells #[.int .i64 0, .int .i64 0, .bool false] 35)
        have r4 := N4.h
        refine hOneS (i := 17) (k := 8) (v := .pointer (some ⟨V3.heap.size, 0, none⟩)) (by kernel_rfl) rfl rfl (by rfl) (by go_simp) r4.lan ?_
        simp only [List.setIfInBounds_toArray, List.set_cons_zero, List.set_cons_succ]
        refine hTakeS (i := 18) (k := 7) (v := .int .i64 cv) rfl rfl (by kernel_rfl) (by kernel_rfl) (by kernel_rfl) (fun _ _ _ h => h) (yieldsIf_val (by rfl) (by intro W; go_simp)) r4.lan ?_
        simp only [List.setIfInBounds_toArray, List.set_cons_zero, List.set_cons_succ]
        have nb := N4.box
        have nh1 := N4.h1
        have nh2 := N4.h2
        have nlow := N4.low
        have kx := r4.kept nb nh1 nh2
        have x0 := cell_of_row _ _ 0 _ _ _ kx
        have x1 := cell_of_row _ _ 1 _ _ _ kx
        have x2 := cell_of_row _ _ 2 _ _ _ kx
        have xf0 := frozen_of_row (V3.alloc (.cells #[.int .i64 0, .int .i64 0, .bool false] 35)) _ 0 _ _ kx
        have xf1 := frozen_of_row (V3.alloc (.cells #[.int .i64 0, .int .i64 0, .bool false] 35)) _ 1 _ _ kx
        have xf2 := frozen_of_row (V3.alloc (.cells #[.int .i64 0, .int .i64 0, .bool false] 35)) _ 2 _ _ kx
        have k1 := (but3 (w := (V3.alloc (.cells #[.int .i64 0, .int .i64 0, .bool false] 35))) (g := V3.heap.size) (.int .i64 i0) (.int .i64 i1) (.bool i2))
        have fx := PLeft.fin (W := (W.alloc (.cells #[.int .i64 0, .int .i64 0, .bool false] 35)).drew) (F := F) r4 N4.hs N4.hb N4.ht nb (by decide) nh1 nh2 nlow (by have := nlow; have := HSW.out; have := HLW.out; omega) k1
        have y0 := set3_at kx (.int .i64 i0) (.int .i64 i1) (.bool i2)
        refine hOneNS (i := 19) (w' := _) (by kernel_rfl) rfl rfl (by rfl) (by go_simp) fx.lan ?_
        refine hTakeS (i := 20) (k := 9) (v := .bool ok) rfl rfl (by kernel_rfl) (by kernel_rfl) (by kernel_rfl) (fun _ _ _ h => h) (yieldsIf_val (by rfl) (by intro W; go_simp)) fx.lan ?_
        simp only [List.setIfInBounds_toArray, List.set_cons_zero, List.set_cons_succ]
        refine wpAnyH_done (by kernel_rfl) ?_ _
        generalize ((((V3.alloc (.cells #[.int .i64 0, .int .i64 0, .bool false] 35)).setCell ⟨V3.heap.size, 0, none⟩ (.int .i64 i0)).setCell ⟨V3.heap.size, 1, none⟩ (.int .i64 i1)).setCell ⟨V3.heap.size, 2, none⟩ (.bool i2)) = U at *
        have kr := fx.kept HR0.out (by have := HKW.out; omega) (fun e => by have := HFW.out _ e; omega)
        have u0 := cell_of_row _ _ 0 _ _ _ y0
        have u1 := cell_of_row _ _ 1 _ _ _ y0
        have u2 := cell_of_row _ _ 2 _ _ _ y0
        have v0 := cell_of_row _ _ 0 _ _ _ kr
        have v1 := cell_of_row _ _ 1 _ _ _ kr
        have v2 := cell_of_row _ _ 2 _ _ _ kr
        have vf0 := frozen_of_row U _ 0 _ _ kr
        have vf1 := frozen_of_row U _ 1 _ _ kr
        have vf2 := frozen_of_row U _ 2 _ _ kr
        have HFX := Lib.hid fx
        have HKR := Lib.hid kr
        clear fx kr kx y0 k1 x0 x1 x2 xf0 xf1 xf2
        go_wp2_with fail
        refine bodyNext rfl rfl rfl (set3_at HKR.out _ _ _) rfl ⟨rfl, ?_⟩
        exact PLeft.fin HFX.out (fun _ e => .inl e) (.of_below HB1.out) (fun j e => by have := HFW.out _ e; have := HSW.out; omega) HR0.out (by decide) (by have := HKW.out; omega) (fun e => by have := HFW.out _ e; omega) (Nat.le_refl _) HLW.out (but3 _ _ _)
      · simp only [List.setIfInBounds_toArray, List.set_cons_zero, List.set_cons_succ]
        refine hCallR (i := 12) (k := 31) (by kernel_rfl) rfl rfl (by rfl) 22 #[.pointer (some ⟨L, 0, none⟩), a8 (leftOf p x)] (by go_simp) (ppickX HK.out r3) ?_
        rintro e V4 ⟨rfl, g4⟩
        refine ⟨_, rfl, g4.lan, ?_⟩
        simp only [List.setIfInBounds_toArray, List.set_cons_zero, List.set_cons_succ]
        refine hTakeS (i := 13) (k := 18) (v := .tuple #[.int .i64 cv, .agg #[.int .i64 i0, .int .i64 i1, .bool i2], .bool ok]) rfl rfl (by kernel_rfl) (by kernel_rfl) (by kernel_rfl) (fun _ _ _ h => h) (yieldsIf_val (by rfl) (by intro W; go_simp)) g4.lan ?_
        simp only [List.setIfInBounds_toArray, List.set_cons_zero, List.set_cons_succ]
        refine hTakeS (i := 14) (k := 32) (v := .int .i64 cv) rfl rfl (by kernel_rfl) (by kernel_rfl) (by kernel_rfl) (fun _ _ _ h => h) (yieldsIf_val (by rfl) (by intro W; go_simp)) g4.lan ?_
        simp only [List.setIfInBounds_toArray, List.set_cons_zero, List.set_cons_succ]
        refine hTakeS (i := 15) (k := 33) (v := .agg #[.int .i64 i0, .int .i64 i1, .bool i2]) rfl rfl (by kernel_rfl) (by kernel_rfl) (by kernel_rfl) (fun _ _ _ h => h) (yieldsIf_val (by rfl) (by intro W; go_simp)) g4.lan ?_
        simp only [List.setIfInBounds_toArray, List.set_cons_zero, List.set_cons_succ]
        refine hTakeS (i := 16) (k := 34) (v := .bool ok) rfl rfl (by kernel_rfl) (by kernel_rfl) (by kernel_rfl) (fun _ _ _ h => h) (yieldsIf_val (by rfl) (by intro W; go_simp)) g4.lan ?_
        simp only [List.setIfInBounds_toArray, List.set_cons_zero, List.set_cons_succ]
        refine hTakeS (i := 18) (k := 7) (v := .int .i64 cv) rfl rfl (by kernel_rfl) (by kernel_rfl) (by kernel_rfl) (fun _ _ _ h => h) (yieldsIf_val (by rfl) (by intro W; go_simp)) g4.lan ?_
        simp only [List.setIfInBounds_toArray, List.set_cons_zero, List.set_cons_succ]
        have nb := N3.box
        have nh1 := N3.h1
        have nh2 := N3.h2
        have nlow := N3.low
        have kx := g4.kept nb nh1 nh2
        have x0 := cell_of_row _ _ 0 _ _ _ kx
        have x1 := cell_of_row _ _ 1 _ _ _ kx
        have x2 := cell_of_row _ _ 2 _ _ _ kx
        have xf0 := frozen_of_row V4 _ 0 _ _ kx
        have xf1 := frozen_of_row V4 _ 1 _ _ kx
        have xf2 := frozen_of_row V4 _ 2 _ _ kx
        have k1 := (but3 (w := V4) (g := V2.heap.size) (.int .i64 i0) (.int .i64 i1) (.bool i2))
        have fx := PLeft.fin (W := (W.alloc (.cells #[.int .i64 0, .int .i64 0, .bool false] 35)).drew) (F := F) g4 N3.hs N3.hb N3.ht nb (by decide) nh1 nh2 nlow (by have := nlow; have := HSW.out; have := HLW.out; omega) k1
        have y0 := set3_at kx (.int .i64 i0) (.int .i64 i1) (.bool i2)
        refine hOneNS (i := 19) (w' := _) (by kernel_rfl) rfl rfl (by rfl) (by go_simp) fx.lan ?_
        refine hTakeS (i := 20) (k := 9) (v := .bool ok) rfl rfl (by kernel_rfl) (by kernel_rfl) (by kernel_rfl) (fun _ _ _ h => h) (yieldsIf_val (by rfl) (by intro W; go_simp)) fx.lan ?_
        simp only [List.setIfInBounds_toArray, List.set_cons_zero, List.set_cons_succ]
        refine wpAnyH_done (by kernel_rfl) ?_ _
        generalize (((V4.setCell ⟨V2.heap.size, 0, none⟩ (.int .i64 i0)).setCell ⟨V2.heap.size, 1, none⟩ (.int .i64 i1)).setCell ⟨V2.heap.size, 2, none⟩ (.bool i2)) = U at *
        have kr := fx.kept HR0.out (by have := HKW.out; omega) (fun e => by have := HFW.out _ e; omega)
        have u0 := cell_of_row _ _ 0 _ _ _ y0
        have u1 := cell_of_row _ _ 1 _ _ _ y0
        have u2 := cell_of_row _ _ 2 _ _ _ y0
        have v0 := cell_of_row _ _ 0 _ _ _ kr
        have v1 := cell_of_row _ _ 1 _ _ _ kr
        have v2 := cell_of_row _ _ 2 _ _ _ kr
        have vf0 := frozen_of_row U _ 0 _ _ kr
        have vf1 := frozen_of_row U _ 1 _ _ kr
        have vf2 := frozen_of_row U _ 2 _ _ kr
        have HFX := Lib.hid fx
        have HKR := Lib.hid kr
        clear fx kr kx y0 k1 x0 x1 x2 xf0 xf1 xf2
        go_wp2_with fail
        refine bodyNext rfl rfl rfl (set3_at HKR.out _ _ _) rfl ⟨rfl, ?_⟩
        exact PLeft.fin HFX.out (fun _ e => .inl e) (.of_below HB1.out) (fun j e => by have := HFW.out _ e; have := HSW.out; omega) HR0.out (by decide) (by have := HKW.out; omega) (fun e => by have := HFW.out _ e; omega) (Nat.le_refl _) HLW.out (but3 _ _ _)
    · simp only [List.setIfInBounds_toArray, List.set_cons_zero, List.set_cons_succ]
      have hta := hta.below (bAl (bRef V1) (.cells #[.int .i64 0, .int .i64 0, .bool false] 35))
      refine hCallR (i := 11) (k := 30) (by kernel_rfl) rfl rfl (by rfl) 31 #[.pointer (some ⟨k, 0, none⟩), LV (p.turn x).b1 (p.turn x).c1 (.slice q (p.turn x).t1.length cp), .int .i64 x] (by go_simp) (pleftX r2 q cp hta HX.out) ?_
      rintro e V3 ⟨rfl, -, g3⟩
      refine ⟨_, rfl, g3.lan, ?_⟩
      simp only [List.setIfInBounds_toArray, List.set_cons_zero, List.set_cons_succ]
      refine hCallR (i := 12) (k := 31) (by kernel_rfl) rfl rfl (by rfl) 22 #[.pointer (some ⟨L, 0, none⟩), a8 (leftOf p x)] (by go_simp) (ppickX HK.out g3) ?_
      rintro e V4 ⟨rfl, g4⟩
      refine ⟨_, rfl, g4.lan, ?_⟩
      simp only [List.setIfInBounds_toArray, List.set_cons_zero, List.set_cons_succ]
      refine hTakeS (i := 13) (k := 18) (v := .tuple #[.int .i64 cv, .agg #[.int .i64 i0, .int .i64 i1, .bool i2], .bool ok]) rfl rfl (by kernel_rfl) (by kernel_rfl) (by kernel_rfl) (fun _ _ _ h => h) (yieldsIf_val (by rfl) (by intro W; go_simp)) g4.lan ?_
      simp only [List.setIfInBounds_toArray, List.set_cons_zero, List.set_cons_succ]
      refine hTakeS (i := 14) (k := 32) (v := .int .i64 cv) rfl rfl (by kernel_rfl) (by kernel_rfl) (by kernel_rfl) (fun _ _ _ h => h) (yieldsIf_val (by rfl) (by intro W; go_simp)) g4.lan ?_
      simp only [List.setIfInBounds_toArray, List.set_cons_zero, List.set_cons_succ]
      refine hTakeS (i := 15) (k := 33) (v := .agg #[.int .i64 i0, .int .i64 i1, .bool i2]) rfl rfl (by kernel_rfl) (by kernel_rfl) (by kernel_rfl) (fun _ _ _ h => h) (yieldsIf_val (by rfl) (by intro W; go_simp)) g4.lan ?_
      simp only [List.setIfInBounds_toArray, List.set_cons_zero, List.set_cons_succ]
      refine hTakeS (i := 16) (k := 34) (v := .bool ok) rfl rfl (by kernel_rfl) (by kernel_rfl) (by kernel_rfl) (fun _ _ _ h => h) (yieldsIf_val (by rfl) (by intro W; go_simp)) g4.lan ?_
      simp only [List.setIfInBounds_toArray, List.set_cons_zero, List.set_cons_succ]
      refine hTakeS (i := 18) (k := 7) (v := .int .i64 cv) rfl rfl (by kernel_rfl) (by kernel_rfl) (by kernel_rfl) (fun _ _ _ h => h) (yieldsIf_val (by rfl) (by intro W; go_simp)) g4.lan ?_
      simp only [List.setIfInBounds_toArray, List.set_cons_zero, List.set_cons_succ]
      have nb := N2.box
      have nh1 := N2.h1
      have nh2 := N2.h2
      have nlow := N2.low
      have kx := g4.kept nb nh1 nh2
      have x0 := cell_of_row _ _ 0 _ _ _ kx
      have x1 := cell_of_row _ _ 1 _ _ _ kx
      have x2 := cell_of_row _ _ 2 _ _ _ kx
      have xf0 := frozen_of_row V4 _ 0 _ _ kx
      have xf1 := frozen_of_row V4 _ 1 _ _ kx
      have xf2 := frozen_of_row V4 _ 2 _ _ kx
      have k1 := (but3 (w := V4) (g := V1.heap.size) (.int .i64 i0) (.int .i64 i1) (.bool i2))
      have fx := PLeft.fin (W := (W.alloc (.cells #[.int .i64 0, .int .i64 0, .bool false] 35)).drew) (F := F) g4 N2.hs N2.hb N2.ht nb (by decide) nh1 nh2 nlow (by have := nlow; have := HSW.out; have := HLW.out; omega) k1
      have y0 := set3_at kx (.int .i64 i0) (.int .i64 i1) (.bool i2)
      refine hOneNS (i := 19) (w' := _) (by kernel_rfl) rfl rfl (by rfl) (by go_simp) fx.lan ?_
      refine hTakeS (i := 20) (k := 9) (v := .bool ok) rfl rfl (by kernel_rfl) (by kernel_rfl) (by kernel_rfl) (fun _ _ _ h => h) (yieldsIf_val (by rfl) (by intro W; go_simp)) fx.lan ?_
      simp only [List.setIfInBounds_toArray, List.set_cons_zero, List.set_cons_succ]
      refine wpAnyH_done (by kernel_rfl) ?_ _
      generalize (((V4.setCell ⟨V1.heap.size, 0, none⟩ (.int .i64 i0)).setCell ⟨V1.heap.size, 1, none⟩ (.int .i64 i1)).setCell ⟨V1.heap.size, 2, none⟩ (.bool i2)) = U at *
      have kr := fx.kept HR0.out (by have := HKW.out; omega) (fun e => by have := HFW.out _ e; omega)
      have u0 := cell_of_row _ _ 0 _ _ _ y0
      have u1 := cell_of_row _ _ 1 _ _ _ y0
      have u2 := cell_of_row _ _ 2 _ _ _ y0
      have v0 := cell_of_row _ _ 0 _ _ _ kr
      have v1 := cell_of_row _ _ 1 _ _ _ kr
      have v2 := cell_of_row _ _ 2 _ _ _ kr
      have vf0 := frozen_of_row U _ 0 _ _ kr
      have vf1 := frozen_of_row U _ 1 _ _ kr
      have vf2 := frozen_of_row U _ 2 _ _ kr
      have HFX := Lib.hid fx
      have HKR := Lib.hid kr
      clear fx kr kx y0 k1 x0 x1 x2 xf0 xf1 xf2
      go_wp2_with fail
      refine bodyNext rfl rfl rfl (set3_at HKR.out _ _ _) rfl ⟨rfl, ?_⟩
      exact PLeft.fin HFX.out (fun _ e => .inl e) (.of_below HB1.out) (fun j e => by have := HFW.out _ e; have := HSW.out; omega) HR0.out (by decide) (by have := HKW.out; omega) (fun e => by have := HFW.out _ e; omega) (Nat.le_refl _) HLW.out (but3 _ _ _)
  · simp only [List.setIfInBounds_toArray, List.set_cons_zero, List.set_cons_succ]
    refine hCallR (i := 9) (k := 28) (by kernel_rfl) rfl rfl (by rfl) 32 #[.pointer (some ⟨k, 0, none⟩), .int .i64 x] (by go_simp) (patL r1 x) ?_
    rintro e V2 ⟨q, cp, rfl, hta, g2⟩
    refine ⟨_, rfl, g2.lan, ?_⟩
    simp only [List.setIfInBounds_toArray, List.set_cons_zero, List.set_cons_succ]
    refine hCallR (i := 11) (k := 30) (by kernel_rfl) rfl rfl (by rfl) 31 #[.pointer (some ⟨k, 0, none⟩), LV (p.turn x).b1 (p.turn x).c1 (.slice q (p.turn x).t1.length cp), .int .i64 x] (by go_simp) (pleftX g2 q cp hta HX.out) ?_
    rintro e V3 ⟨rfl, -, g3⟩
    refine ⟨_, rfl, g3.lan, ?_⟩
    simp only [List.setIfInBounds_toArray, List.set_cons_zero, List.set_cons_succ]
    refine hCallR (i := 12) (k := 31) (by kernel_rfl) rfl rfl (by rfl) 22 #[.pointer (some ⟨L, 0, none⟩), a8 (leftOf p x)] (by go_simp) (ppickX HK.out g3) ?_
    rintro e V4 ⟨rfl, g4⟩
    refine ⟨_, rfl, g4.lan, ?_⟩
    simp only [List.setIfInBounds_toArray, List.set_cons_zero, List.set_cons_succ]
    refine hTakeS (i := 13) (k := 18) (v := .tuple #[.int .i64 cv, .agg #[.int .i64 i0, .int .i64 i1, .bool i2], .bool ok]) rfl rfl (by kernel_rfl) (by kernel_rfl) (by kernel_rfl) (fun _ _ _ h => h) (yieldsIf_val (by rfl) (by intro W; go_simp)) g4.lan ?_
    simp only [List.setIfInBounds_toArray, List.set_cons_zero, List.set_cons_succ]
    refine hTakeS (i := 14) (k := 32) (v := .int .i64 cv) rfl rfl (by kernel_rfl) (by kernel_rfl) (by kernel_rfl) (fun _ _ _ h => h) (yieldsIf_val (by rfl) (by intro W; go_simp)) g4.lan ?_
    simp only [List.setIfInBounds_toArray, List.set_cons_zero, List.set_cons_succ]
    refine hTakeS (i := 15) (k := 33) (v := .agg #[.int .i64 i0, .int .i64 i1, .bool i2]) rfl rfl (by kernel_rfl) (by kernel_rfl) (by kernel_rfl) (fun _ _ _ h => h) (yieldsIf_val (by rfl) (by intro W; go_simp)) g4.lan ?_
    simp only [List.setIfInBounds_toArray, List.set_cons_zero, List.set_cons_succ]
    refine hTakeS (i := 16) (k := 34) (v := .bool ok) rfl rfl (by kernel_rfl) (by kernel_rfl) (by kernel_rfl) (fun _ _ _ h => h) (yieldsIf_val (by rfl) (by intro W; go_simp)) g4.lan ?_
    simp only [List.setIfInBounds_toArray, List.set_cons_zero, List.set_cons_succ]
    refine hTakeS (i := 18) (k := 7) (v := .int .i64 cv) rfl rfl (by kernel_rfl) (by kernel_rfl) (by kernel_rfl) (fun _ _ _ h => h) (yieldsIf_val (by rfl) (by intro W; go_simp)) g4.lan ?_
    simp only [List.setIfInBounds_toArray, List.set_cons_zero, List.set_cons_succ]
    have nb := N1.box
    have nh1 := N1.h1
    have nh2 := N1.h2
    have nlow := N1.low
    rw [HSW.out] at nb nh1 nh2
    have nlow : (W.alloc (.cells #[.int .i64 0, .int .i64 0, .bool false] 35)).drew.heap.size ≤ W.heap.size + 1 := by rw [HSW.out]; exact Nat.le_refl _
    have kx := g4.kept nb nh1 nh2
    have x0 := cell_of_row _ _ 0 _ _ _ kx
    have x1 := cell_of_row _ _ 1 _ _ _ kx
    have x2 := cell_of_row _ _ 2 _ _ _ kx
    have xf0 := frozen_of_row V4 _ 0 _ _ kx
    have xf1 := frozen_of_row V4 _ 1 _ _ kx
    have xf2 := frozen_of_row V4 _ 2 _ _ kx
    have k1 := (but3 (w := V4) (g := W.heap.size + 1) (.int .i64 i0) (.int .i64 i1) (.bool i2))
    have fx := PLeft.fin (W := (W.alloc (.cells #[.int .i64 0, .int .i64 0, .bool false] 35)).drew) (F := F) g4 N1.hs N1.hb N1.ht nb (by decide) nh1 nh2 nlow (by have := nlow; have := HSW.out; have := HLW.out; omega) k1
    have y0 := set3_at kx (.int .i64 i0) (.int .i64 i1) (.bool i2)
    refine hOneNS (i := 19) (w' := _) (by kernel_rfl) rfl rfl (by rfl) (by go_simp) fx.lan ?_
    refine hTakeS (i := 20) (k := 9) (v := .bool ok) rfl rfl (by kernel_rfl) (by kernel_rfl) (by kernel_rfl) (fun _ _ _ h => h) (yieldsIf_val (by rfl) (by intro W; go_simp)) fx.lan ?_
    simp only [List.setIfInBounds_toArray, List.set_cons_zero, List.set_cons_succ]
    refine wpAnyH_done (by kernel_rfl) ?_ _
    generalize (((V4.setCell ⟨W.heap.size + 1, 0, none⟩ (.int .i64 i0)).setCell ⟨W.heap.size + 1, 1, none⟩ (.int .i64 i1)).setCell ⟨W.heap.size + 1, 2, none⟩ (.bool i2)) = U at *
    have kr := fx.kept HR0.out (by have := HKW.out; omega) (fun e => by have := HFW.out _ e; omega)
    have u0 := cell_of_row _ _ 0 _ _ _ y0
    have u1 := cell_of_row _ _ 1 _ _ _ y0
    have u2 := cell_of_row _ _ 2 _ _ _ y0
    have v0 := cell_of_row _ _ 0 _ _ _ kr
    have v1 := cell_of_row _ _ 1 _ _ _ kr
    have v2 := cell_of_row _ _ 2 _ _ _ kr
    have vf0 := frozen_of_row U _ 0 _ _ kr
    have vf1 := frozen_of_row U _ 1 _ _ kr
    have vf2 := frozen_of_row U _ 2 _ _ kr
    have HFX := Lib.hid fx
    have HKR := Lib.hid kr
    clear fx kr kx y0 k1 x0 x1 x2 xf0 xf1 xf2
    go_wp2_with fail
    refine bodyNext rfl rfl rfl (set3_at HKR.out _ _ _) rfl ⟨rfl, ?_⟩
    exact PLeft.fin HFX.out (fun _ e => .inl e) (.of_below HB1.out) (fun j e => by have := HFW.out _ e; have := HSW.out; omega) HR0.out (by decide) (by have := HKW.out; omega) (fun e => by have := HFW.out _ e; omega) (Nat.le_refl _) HLW.out (but3 _ _ _)
end

end Go.Proofs.Ytllmfkodgalklaa
