/- PairRuns: the state of its great loop, and its two closures. -/
import Derived.Test.YtfeoppbincldfaaPrLaw
import Derived.Test.YtfeoppbincldfaaPrArg
namespace Go.Proofs.Ytfeoppbincldfaa
open Go.RowKit Go.Joins Go.Deep

/-- The blocks: the pair and its clocks; the law's clocks; the boxes of most, of the row of clocks, the row, root, last. -/
structure Ids where
  p : Nat
  k0 : Nat
  k1 : Nat
  c0 : Nat
  c1 : Nat
  bm : Nat
  bs : Nat
  br : Nat
  bo : Nat
  bl : Nat
def Ids.L (I : Ids) : List Nat := [I.p, I.k0, I.k1, I.c0, I.c1, I.bo, I.bl]
/-- What never turns. -/
structure Stat (I : Ids) (most : Int) (W : World) : Prop where
  M : W.heap[I.bm]? = some (.cells #[.int .i64 most] 22 (0, 0))
  S : W.heap[I.bs]? = some (.cells #[.slice (some ⟨I.br, 0, none⟩) 2 2] 46 (0, 0))
  R : W.heap[I.br]? = some (.cells #[.pointer (some ⟨I.c0, 0, none⟩), .pointer (some ⟨I.c1, 0, none⟩)] 44 (0, 0))
/-- The pair says sp, the law's own say sl. -/
structure RunP (I : Ids) (W : World) (sp sl : PP) : Prop where
  P : Pw W I.p I.k0 I.k1 sp
  C0 : Ck W I.c0 sl.a
  C1 : Ck W I.c1 sl.b
  st : Stat I sl.most W
  O : W.heap[I.bo]? = some (.cells #[.bool sl.root] 4 (0, 0))
  A : W.heap[I.bl]? = some (.cells #[.int .i64 sl.last] 3 (0, 0))
  n1 : I.c0 ≠ I.c1
  n2 : I.c0 ≠ I.k0
  n3 : I.c0 ≠ I.k1
  n4 : I.c1 ≠ I.k0
  n5 : I.c1 ≠ I.k1
theorem ty_ne {W : World} {a b : Nat} {x y : Array Value} {t u : TypeId} {f g : Nat × Nat} (h : W.heap[a]? = some (.cells x t f)) (k : W.heap[b]? = some (.cells y u g)) (hn : t ≠ u) : a ≠ b := fun e => by
  subst e
  rw [h] at k
  injection k with k
  injection k with _ k
  exact hn k
section
variable {I : Ids} {W W' : World} {sp sl s : PP} {most : Int}
theorem Stat.keep (h : Stat I most W) {L : List Nat} (hb : ButS L W W') (h1 : I.bm ∉ L) (h2 : I.bs ∉ L) (h3 : I.br ∉ L) : Stat I most W' :=
  ⟨(hb.block _ (lt_of_heap h.M) h1).trans h.M, (hb.block _ (lt_of_heap h.S) h2).trans h.S, (hb.block _ (lt_of_heap h.R) h3).trans h.R⟩
theorem Stat.below (h : Stat I most W) (hb : Below W.heap.size W W') : Stat I most W' :=
  ⟨(hb.block _ (lt_of_heap h.M)).trans h.M, (hb.block _ (lt_of_heap h.S)).trans h.S, (hb.block _ (lt_of_heap h.R)).trans h.R⟩
theorem Stat.m (h : Stat I most W) : W.cell? ⟨I.bm, 0, none⟩ = some (.int .i64 most) := cell_of_row W I.bm 0 _ _ _ h.M
theorem Stat.q (h : Stat I most W) : W.cell? ⟨I.bs, 0, none⟩ = some (.slice (some ⟨I.br, 0, none⟩) 2 2) := cell_of_row W I.bs 0 _ _ _ h.S
theorem Stat.r0 (h : Stat I most W) : W.cell? ⟨I.br, 0, none⟩ = some (.pointer (some ⟨I.c0, 0, none⟩)) := cell_of_row W I.br 0 _ _ _ h.R
theorem Stat.r1 (h : Stat I most W) : W.cell? ⟨I.br, 1, none⟩ = some (.pointer (some ⟨I.c1, 0, none⟩)) := cell_of_row W I.br 1 _ _ _ h.R
theorem RunP.below (h : RunP I W sp sl) (hb : Below W.heap.size W W') : RunP I W' sp sl :=
  ⟨h.P.below hb, h.C0.below hb, h.C1.below hb, h.st.below hb, (hb.block _ (lt_of_heap h.O)).trans h.O, (hb.block _ (lt_of_heap h.A)).trans h.A, h.n1, h.n2, h.n3, h.n4, h.n5⟩
theorem RunP.drewN (h : RunP I W sp sl) (n : Nat) : RunP I (W.drewN n) sp sl := ⟨h.P.drewN n, h.C0, h.C1, ⟨h.st.M, h.st.S, h.st.R⟩, h.O, h.A, h.n1, h.n2, h.n3, h.n4, h.n5⟩
theorem RunP.o (h : RunP I W sp sl) : W.cell? ⟨I.bo, 0, none⟩ = some (.bool sl.root) := cell_of_row W I.bo 0 _ _ _ h.O
theorem RunP.a (h : RunP I W sp sl) : W.cell? ⟨I.bl, 0, none⟩ = some (.int .i64 sl.last) := cell_of_row W I.bl 0 _ _ _ h.A
theorem RunP.fo (h : RunP I W sp sl) : W.frozen? ⟨I.bo, 0, none⟩ = false := frozen_of_row _ _ _ _ _ h.O
theorem RunP.fa (h : RunP I W sp sl) : W.frozen? ⟨I.bl, 0, none⟩ = false := frozen_of_row _ _ _ _ _ h.A
/-- The pair turns. -/
theorem RunP.pair (h : RunP I W sp sl) (hl : LeaveP I.p I.k0 I.k1 W s W') : RunP I W' s sl := by
  obtain ⟨h1, hb⟩ := hl
  have np := h.P.box
  have ck0 := h.P.c0
  have ck1 := h.P.c1
  unfold Ck at ck0 ck1
  have hc0 := h.C0
  have hc1 := h.C1
  unfold Ck at hc0 hc1
  have no : ∀ {b : Nat} {x : Array Value} {t : TypeId} {f : Nat × Nat}, W.heap[b]? = some (.cells x t f) → t ≠ 121 → t ≠ 124 → b ∉ [I.p, I.k0, I.k1] := fun hx t1 t2 => by
    simp only [List.mem_cons, List.not_mem_nil, or_false, not_or]
    exact ⟨ty_ne hx np t1, ty_ne hx ck0 t2, ty_ne hx ck1 t2⟩
  refine ⟨h1, h.C0.butS hb ?_, h.C1.butS hb ?_, h.st.keep hb (no h.st.M (by decide) (by decide)) (no h.st.S (by decide) (by decide)) (no h.st.R (by decide) (by decide)), (hb.block _ (lt_of_heap h.O) (no h.O (by decide) (by decide))).trans h.O, (hb.block _ (lt_of_heap h.A) (no h.A (by decide) (by decide))).trans h.A, h.n1, h.n2, h.n3, h.n4, h.n5⟩
  · simp only [List.mem_cons, List.not_mem_nil, or_false, not_or]
    exact ⟨Ne.symm (ty_ne np hc0 (by decide)), h.n2, h.n3⟩
  · simp only [List.mem_cons, List.not_mem_nil, or_false, not_or]
    exact ⟨Ne.symm (ty_ne np hc1 (by decide)), h.n4, h.n5⟩
/-- A clock of the law's turns. -/
theorem RunP.clk0 (h : RunP I W sp sl) {c : CS} (hl : LeaveC I.c0 W c W') : RunP I W' sp { sl with a := c } := by
  obtain ⟨h1, hb⟩ := hl
  have hc0 := h.C0
  unfold Ck at hc0
  have no : ∀ {b : Nat} {x : Array Value} {t : TypeId} {f : Nat × Nat}, W.heap[b]? = some (.cells x t f) → t ≠ 124 → b ≠ I.c0 := fun hx t1 => ty_ne hx hc0 t1
  exact ⟨⟨(hb.block _ h.P.lt (no h.P.box (by decide))).trans h.P.box, h.P.c0.but hb (Ne.symm h.n2), h.P.c1.but hb (Ne.symm h.n3), h.P.ne⟩, h1, h.C1.but hb (Ne.symm h.n1),
    ⟨(hb.block _ (lt_of_heap h.st.M) (no h.st.M (by decide))).trans h.st.M, (hb.block _ (lt_of_heap h.st.S) (no h.st.S (by decide))).trans h.st.S, (hb.block _ (lt_of_heap h.st.R) (no h.st.R (by decide))).trans h.st.R⟩,
    (hb.block _ (lt_of_heap h.O) (no h.O (by decide))).trans h.O, (hb.block _ (lt_of_heap h.A) (no h.A (by decide))).trans h.A, h.n1, h.n2, h.n3, h.n4, h.n5⟩
theorem RunP.clk1 (h : RunP I W sp sl) {c : CS} (hl : LeaveC I.c1 W c W') : RunP I W' sp { sl with b := c } := by
  obtain ⟨h1, hb⟩ := hl
  have hc0 := h.C1
  unfold Ck at hc0
  have no : ∀ {b : Nat} {x : Array Value} {t : TypeId} {f : Nat × Nat}, W.heap[b]? = some (.cells x t f) → t ≠ 124 → b ≠ I.c1 := fun hx t1 => ty_ne hx hc0 t1
  exact ⟨⟨(hb.block _ h.P.lt (no h.P.box (by decide))).trans h.P.box, h.P.c0.but hb (Ne.symm h.n4), h.P.c1.but hb (Ne.symm h.n5), h.P.ne⟩, h.C0.but hb h.n1, h1,
    ⟨(hb.block _ (lt_of_heap h.st.M) (no h.st.M (by decide))).trans h.st.M, (hb.block _ (lt_of_heap h.st.S) (no h.st.S (by decide))).trans h.st.S, (hb.block _ (lt_of_heap h.st.R) (no h.st.R (by decide))).trans h.st.R⟩,
    (hb.block _ (lt_of_heap h.O) (no h.O (by decide))).trans h.O, (hb.block _ (lt_of_heap h.A) (no h.A (by decide))).trans h.A, h.n1, h.n2, h.n3, h.n4, h.n5⟩
/-- The box of root, or of last, turns. -/
theorem RunP.setO (h : RunP I W sp sl) (b : Bool) : RunP I (W.setCell ⟨I.bo, 0, none⟩ (.bool b)) sp { sl with root := b } := by
  have hb := set_but (ButB.refl I.bo W) 0 (.bool b)
  have no : ∀ {k : Nat} {x : Array Value} {t : TypeId} {f : Nat × Nat}, W.heap[k]? = some (.cells x t f) → t ≠ 4 → k ≠ I.bo := fun hx t1 => ty_ne hx h.O t1
  exact ⟨⟨(hb.block _ h.P.lt (no h.P.box (by decide))).trans h.P.box, h.P.c0.but hb (no h.P.c0 (by decide)), h.P.c1.but hb (no h.P.c1 (by decide)), h.P.ne⟩, h.C0.but hb (no h.C0 (by decide)), h.C1.but hb (no h.C1 (by decide)),
    ⟨(hb.block _ (lt_of_heap h.st.M) (no h.st.M (by decide))).trans h.st.M, (hb.block _ (lt_of_heap h.st.S) (no h.st.S (by decide))).trans h.st.S, (hb.block _ (lt_of_heap h.st.R) (no h.st.R (by decide))).trans h.st.R⟩,
    heap_setCell_same W I.bo 0 _ _ _ h.O, (hb.block _ (lt_of_heap h.A) (no h.A (by decide))).trans h.A, h.n1, h.n2, h.n3, h.n4, h.n5⟩
theorem RunP.setA (h : RunP I W sp sl) (x : Int) : RunP I (W.setCell ⟨I.bl, 0, none⟩ (.int .i64 x)) sp { sl with last := x } := by
  have hb := set_but (ButB.refl I.bl W) 0 (.int .i64 x)
  have no : ∀ {k : Nat} {x : Array Value} {t : TypeId} {f : Nat × Nat}, W.heap[k]? = some (.cells x t f) → t ≠ 3 → k ≠ I.bl := fun hx t1 => ty_ne hx h.A t1
  exact ⟨⟨(hb.block _ h.P.lt (no h.P.box (by decide))).trans h.P.box, h.P.c0.but hb (no h.P.c0 (by decide)), h.P.c1.but hb (no h.P.c1 (by decide)), h.P.ne⟩, h.C0.but hb (no h.C0 (by decide)), h.C1.but hb (no h.C1 (by decide)),
    ⟨(hb.block _ (lt_of_heap h.st.M) (no h.st.M (by decide))).trans h.st.M, (hb.block _ (lt_of_heap h.st.S) (no h.st.S (by decide))).trans h.st.S, (hb.block _ (lt_of_heap h.st.R) (no h.st.R (by decide))).trans h.st.R⟩,
    (hb.block _ (lt_of_heap h.O) (no h.O (by decide))).trans h.O, heap_setCell_same W I.bl 0 _ _ _ h.A, h.n1, h.n2, h.n3, h.n4, h.n5⟩
theorem sP {k : Nat} (h : k ∈ [I.p, I.k0, I.k1]) : k ∈ I.L := by
  unfold Ids.L
  simp only [List.mem_cons, List.not_mem_nil, or_false] at h ⊢
  omega
theorem RunP.bP (hl : LeaveP I.p I.k0 I.k1 W s W') : ButS I.L W W' := hl.2.mono fun _ h => sP h
theorem b0 {c : CS} (hl : LeaveC I.c0 W c W') : ButS I.L W W' := ButS.of_but hl.2 (by unfold Ids.L; simp)
theorem b1 {c : CS} (hl : LeaveC I.c1 W c W') : ButS I.L W W' := ButS.of_but hl.2 (by unfold Ids.L; simp)
theorem bO (v : Value) : ButS I.L W (W.setCell ⟨I.bo, 0, none⟩ v) := ButS.of_but (set_but (ButB.refl I.bo W) 0 v) (by unfold Ids.L; simp)
theorem bA (v : Value) : ButS I.L W (W.setCell ⟨I.bl, 0, none⟩ v) := ButS.of_but (set_but (ButB.refl I.bl W) 0 v) (by unfold Ids.L; simp)
/-- A message in a step's box is none of these blocks. -/
theorem RunP.not (h : RunP I W sp sl) {b : Nat} {x : Array Value} {t : TypeId} {f : Nat × Nat} (hb : W.heap[b]? = some (.cells x t f)) (h1 : t ≠ 121) (h2 : t ≠ 124) (h3 : t ≠ 4) (h4 : t ≠ 3) : b ∉ I.L := by
  unfold Ids.L
  simp only [List.mem_cons, List.not_mem_nil, or_false, not_or]
  exact ⟨ty_ne hb h.P.box h1, ty_ne hb h.P.c0 h2, ty_ne hb h.P.c1 h2, ty_ne hb h.C0 h2, ty_ne hb h.C1 h2, ty_ne hb h.O h3, ty_ne hb h.A h4⟩
set_option maxHeartbeats 1000000 in
theorem lend_any (h : RunP I W sp sl) (hs : sl.Ok) {x : Int} (hx : In64 x) : Calls Try.prog 23 #[.int .i64 x, .pointer (some ⟨I.bo, 0, none⟩), .pointer (some ⟨I.bs, 0, none⟩), .pointer (some ⟨I.bm, 0, none⟩)] W fun e w' => e = .returned (.tuple #[]) ∧ RunP I w' sp (sl.held x) ∧ ButS I.L W w' := by
  have HH := Lib.hid h
  have o := h.o
  have m := h.st.m
  have q := h.st.q
  have r0 := h.st.r0
  have r1 := h.st.r1
  have HF : Hid (∀ W, Ck W I.c0 sl.a → Calls Try.prog 24 #[.pointer (some ⟨I.c0, 0, none⟩), .int .i64 x, .int .i64 sl.most] W fun e w' => e = .returned (.bool (sl.a.fresh x sl.most)) ∧ w' = W) := Lib.hid (fun W h => fresh_any h hs.a hx sl.most)
  have HA : Hid (∀ W, Ck W I.c0 sl.a → Calls Try.prog 25 #[.pointer (some ⟨I.c0, 0, none⟩), .int .i64 x] W fun e w' => e = .returned (.tuple #[.int .i64 (sl.a.time x), .bool (sl.a.tells x)]) ∧ Below W.heap.size W w') := Lib.hid (fun W h => at_any h hs.a hx)
  unfold PP.held
  cases hr : sl.root with
  | false =>
    rw [hr] at o
    rw [if_neg (by decide)]
    clear h hs
    go_enter Try.func23, Try.ntmps23
    go_wp2_with fail
    go_quiet (fail)
    go_wp2_with fail
    go_end0
    exact ⟨rfl, HH.out.drewN _, (ButS.refl _ _).drewN _⟩
  | true =>
    rw [hr] at o
    rw [if_pos rfl]
    have HC : Hid (∀ n, Ck (W.drewN n) I.c0 sl.a) := Lib.hid (fun n => h.C0)
    cases hf : sl.a.fresh x sl.most with
    | false =>
      rw [hf] at HF
      rw [if_neg (by decide)]
      clear h hs
      go_enter Try.func23, Try.ntmps23
      go_wp2_with fail
      go_quiet ((go_at_call 24; exact Calls.quiet_of_same (HF.out _ (HC.out _))))
      go_wp2_with fail
      go_end0
      exact ⟨rfl, HH.out.drewN _, (ButS.refl _ _).drewN _⟩
    | true =>
      rw [hf] at HF
      rw [if_pos rfl]
      clear h hs
      cases ht : sl.a.tells x with
      | false =>
        rw [ht] at HA
        rw [if_neg (by decide)]
        generalize sl.a.time x = t at *
        go_enter Try.func23, Try.ntmps23
        go_wp2_with fail
        go_quiet ((go_at_call 24; exact Calls.quiet_of_same (HF.out _ (HC.out _))))
        go_wp2_with (go_at_call 25; (with_reducible refine (HA.out _ (HC.out _)).mono ?_); rintro e w1 ⟨rfl, hb⟩; have H1 := Lib.hid ((HH.out.drewN nq).below hb); have B1 := Lib.hid (((ButS.refl I.L W).drewN nq).trans (ButS.of_below hb)); clear hb)
        go_end0
        exact ⟨rfl, H1.out, B1.out⟩
      | true =>
        rw [ht] at HA
        rw [if_pos rfl]
        generalize sl.a.time x = t at *
        go_enter Try.func23, Try.ntmps23
        go_wp2_with fail
        go_quiet ((go_at_call 24; exact Calls.quiet_of_same (HF.out _ (HC.out _))))
        go_wp2_with (first
          | (go_at_call 25; (with_reducible refine (HA.out _ (HC.out _)).mono ?_); rintro e w1 ⟨rfl, hb⟩; have h1 := (HH.out.drewN nq).below hb; have H1 := Lib.hid h1; have q1 := h1.st.q; have r11 := h1.st.r1; have B1 := Lib.hid (((ButS.refl I.L W).drewN nq).trans (ButS.of_below hb)); clear hb h1)
          | (go_at_call 26; (with_reducible refine (hold_any H1.out.C1 x t).mono ?_); rintro e w2 ⟨rfl, hl⟩; have H2 := Lib.hid (H1.out.clk1 hl); have B2 := Lib.hid (B1.out.trans (b1 hl)); clear hl))
        go_end0
        exact ⟨rfl, by have h := H2.out; rw [hr] at h; exact h, B2.out⟩
set_option maxHeartbeats 1000000 in
theorem lpick_any (h : RunP I W sp sl) (hs : sl.Ok) {x : Int} (hx : In64 x) : Calls Try.prog 27 #[.int .i64 x, .pointer (some ⟨I.bs, 0, none⟩), .pointer (some ⟨I.bm, 0, none⟩), .pointer (some ⟨I.bl, 0, none⟩)] W fun e w' => e = .returned (.int .i64 (sl.held1 x)) ∧ RunP I w' sp (sl.picked x) ∧ ButS I.L W w' := by
  have HH := Lib.hid h
  have a := h.a
  have fa := h.fa
  have m := h.st.m
  have q := h.st.q
  have r0 := h.st.r0
  have r1 := h.st.r1
  have HF : Hid (∀ W, Ck W I.c0 sl.a → Calls Try.prog 24 #[.pointer (some ⟨I.c0, 0, none⟩), .int .i64 x, .int .i64 sl.most] W fun e w' => e = .returned (.bool (sl.a.fresh x sl.most)) ∧ w' = W) := Lib.hid (fun W h => fresh_any h hs.a hx sl.most)
  have HG : Hid (∀ W, Ck W I.c1 sl.b → Calls Try.prog 24 #[.pointer (some ⟨I.c1, 0, none⟩), .int .i64 x, .int .i64 sl.most] W fun e w' => e = .returned (.bool (sl.b.fresh x sl.most)) ∧ w' = W) := Lib.hid (fun W h => fresh_any h hs.b hx sl.most)
  have HC : Hid (∀ n, Ck (W.drewN n) I.c0 sl.a) := Lib.hid (fun n => h.C0)
  have HD : Hid (∀ n, Ck (W.drewN n) I.c1 sl.b) := Lib.hid (fun n => h.C1)
  unfold PP.picked PP.held1
  clear h hs
  cases hf : sl.a.fresh x sl.most with
  | true =>
    rw [hf] at HF
    rw [if_pos rfl]
    go_enter Try.func27, Try.ntmps27
    go_wp2_with fail
    go_quiet ((go_at_call 24; exact Calls.quiet_of_same (HF.out _ (HC.out _))))
    have H1 := Lib.hid ((HH.out.drewN nq).setA 0)
    have B1 := Lib.hid (((ButS.refl I.L W).drewN nq).trans (bA (I := I) (W := W.drewN nq) (.int .i64 0)))
    go_wp2_with fail
    go_ret
    exact ⟨rfl, H1.out, B1.out⟩
  | false =>
    rw [hf] at HF
    rw [if_neg (by decide)]
    cases hg : sl.b.fresh x sl.most with
    | true =>
      rw [hg] at HG
      rw [if_pos rfl]
      go_enter Try.func27, Try.ntmps27
      go_wp2_with fail
      go_quiet ((go_at_call 24; exact Calls.quiet_of_same (HF.out _ (HC.out _))))
      have h2 := HH.out.drewN nq
      have B2 := Lib.hid ((ButS.refl I.L W).drewN nq)
      go_upto_region 3 with (fail)
      clear a fa m q r0 r1 HC HD
      generalize W.drewN nq = V at *
      have HH2 := Lib.hid h2
      have a := h2.a
      have fa := h2.fa
      have m := h2.st.m
      have q := h2.st.q
      have r1 := h2.st.r1
      have HD : Hid (∀ n, Ck (V.drewN n) I.c1 sl.b) := Lib.hid (fun n => h2.C1)
      clear h2
      go_quiet ((go_at_call 24; exact Calls.quiet_of_same (HG.out _ (HD.out _))))
      have H1 := Lib.hid ((HH2.out.drewN nq).setA 1)
      have B1 := Lib.hid ((B2.out.drewN nq).trans (bA (I := I) (W := V.drewN nq) (.int .i64 1)))
      go_wp2_with fail
      go_ret
      exact ⟨rfl, H1.out, B1.out⟩
    | false =>
      rw [hg] at HG
      rw [if_neg (by decide)]
      go_enter Try.func27, Try.ntmps27
      go_wp2_with fail
      go_quiet ((go_at_call 24; exact Calls.quiet_of_same (HF.out _ (HC.out _))))
      have h2 := HH.out.drewN nq
      have B2 := Lib.hid ((ButS.refl I.L W).drewN nq)
      go_upto_region 3 with (fail)
      clear a fa m q r0 r1 HC HD
      generalize W.drewN nq = V at *
      have HH2 := Lib.hid h2
      have a := h2.a
      have fa := h2.fa
      have m := h2.st.m
      have q := h2.st.q
      have r1 := h2.st.r1
      have HD : Hid (∀ n, Ck (V.drewN n) I.c1 sl.b) := Lib.hid (fun n => h2.C1)
      clear h2
      go_quiet ((go_at_call 24; exact Calls.quiet_of_same (HG.out _ (HD.out _))))
      go_wp2_with fail
      go_ret
      exact ⟨rfl, HH2.out.drewN _, B2.out.drewN _⟩
end

end Go.Proofs.Ytfeoppbincldfaa
