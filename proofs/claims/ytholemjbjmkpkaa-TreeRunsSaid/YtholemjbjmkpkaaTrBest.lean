/- Package tree: Best. -/
import Derived.Test.YtholemjbjmkpkaaTrOps
namespace Go.Proofs.Ytholemjbjmkpkaa
open Go.RowKit Go.Joins Go.Deep

/-- What its numbers can be. -/
structure Ts.Ok (t : Ts) : Prop where
  n8 : t.n ≤ 8
  m0 : 1 ≤ t.most
  m1 : t.most ≤ 1099511627776
  whens : ∀ k, k < t.n → In64 (t.ports k).when_
  paths : ∀ k, k < t.n → ∀ x ∈ (t.ports k).path, In64 x
/-- What layer 19 is handed. -/
def Ts.F (t : Ts) (now : Int) (k : Nat) : Hd := ⟨(t.ports k).up, (t.ports k).holds now t.most, (t.ports k).vec⟩
def Ts.best (t : Ts) (now : Int) : Vc := chs t.own (t.F now) t.n
def Ts.roles (t : Ts) (now : Int) : List Int := rolesL t.own.id (t.best now) (t.F now) t.n
theorem make_heards (n : Nat) (hn : n ≤ 8) (w : World) : ∃ cs, cs.size = n * 10 ∧ (Instr.makeSlice 33 (.int .i64 (n : Int)) (.int .i64 (n : Int))).run Try.prog w = .ok (.slice (some ⟨w.heap.size, 0, none⟩) n n) (w.alloc (.cells cs 37)) := by
  obtain ⟨i0, hi, hz0, hz1, hz2⟩ := Go.info_parts Try.infoH
  have hr := run_make (P := Try.prog) w 33 37 i0 _ Try.underlying33 hi hz0 .i64 .i64 n n (by omega) (by omega) (by rw [hz2]; omega) (by omega)
  simp only [Int.toNat_natCast] at hr
  rw [hz1] at hr
  exact ⟨_, by simp [madeCells], hr⟩
theorem storeMid {a : Act} {o : Oper} {W : World} (ty : TypeId) (x y : Operand) (ho : o.op = .store ty x y) (b f : Nat) (cs : Array Value) (hx : a.eval x = .pointer (some ⟨b, f, none⟩)) (hy : a.eval y = .agg cs) (ht : W.there b f cs.size) (hi : (Try.prog.info? ty).map (·.size) = some cs.size) (h1 : cs.all (·.oneCell') = true) :
    (execOp a.eval o).run Try.prog W = .ok .skip (W.setCells b f cs.toList) := by
  unfold execOp
  simp only [ho, hx, hy]
  rw [Sem.run_bind, run_storeAt_mid W b f ty cs ht hi h1]
  rfl
theorem kvec (k : Kp) (u : Value) : ∀ j x, (VC k.vec).toList[j]? = some x → (KC k u)[3 + j]? = some x := by
  intro j x h
  have hl : j < 8 := by have := (List.getElem?_eq_some_iff.1 h).1; simpa [VC] using this
  rcases (show j = 0 ∨ j = 1 ∨ j = 2 ∨ j = 3 ∨ j = 4 ∨ j = 5 ∨ j = 6 ∨ j = 7 by omega) with rfl | rfl | rfl | rfl | rfl | rfl | rfl | rfl <;> exact h
/-- A port's box, and the tree's most. -/
structure BS (b : Nat) (most : Int) (k : Kp) (u : Value) (bx : Nat) (W : World) : Prop where
  box : W.heap[bx]? = some (.cells (KC k u) 91 (0, 0))
  m : W.cell? ⟨b, 5, none⟩ = some (.int .i64 most)
theorem BS.c0 {b : Nat} {most : Int} {k : Kp} {u : Value} {bx : Nat} {W : World} (h : BS b most k u bx W) : W.cell? ⟨bx, 0, none⟩ = some (.bool k.up) := cell_of_row _ _ 0 _ _ _ h.box
theorem BS.below {b : Nat} {most : Int} {k : Kp} {u : Value} {bx : Nat} {W W' : World} (h : BS b most k u bx W) (hb : Below W.heap.size W W') : BS b most k u bx W' := ⟨(hb.block _ (lt_of_heap h.box)).trans h.box, (hb.cell (block_lt_cell h.m)).trans h.m⟩
theorem BS.sets {b : Nat} {most : Int} {k : Kp} {u : Value} {bx : Nat} {W : World} (h : BS b most k u bx W) (q : Nat) (h1 : bx ≠ q) (h2 : b ≠ q) (o : Nat) (l : List Value) : BS b most k u bx (W.setCells q o l) := by
  have hb := (ButB.refl q W).sets l o
  exact ⟨(hb.block _ (lt_of_heap h.box) h1).trans h.box, (World.cell?_of_block (hb.block _ (block_lt_cell h.m) h2)).trans h.m⟩
/-- The first k of the list that layer 19 is handed. -/
def HdRow (W : World) (q n : Nat) (F : Nat → Hd) (k : Nat) : Prop := ∃ cs, W.heap[q]? = some (.cells cs 37 (0, 0)) ∧ cs.size = n * 10 ∧ ∀ i, i < k → ∀ j x, (HC (F i)).toList[j]? = some x → cs[i * 10 + j]? = some x
theorem HdRow.below {W W' : World} {q n : Nat} {F : Nat → Hd} {k : Nat} (h : HdRow W q n F k) (hb : Below W.heap.size W W') : HdRow W' q n F k := by
  obtain ⟨cs, h1, h2⟩ := h
  exact ⟨cs, (hb.block _ (lt_of_heap h1)).trans h1, h2⟩
theorem HdRow.there {W : World} {q n : Nat} {F : Nat → Hd} {k i : Nat} (h : HdRow W q n F k) (hi : i < n) : W.there q (i * 10) 10 := by
  obtain ⟨cs, h1, h2, h3⟩ := h
  intro j hj
  have hle : (i + 1) * 10 ≤ n * 10 := Nat.mul_le_mul_right 10 hi
  refine ⟨?_, frozen_of_row _ _ _ _ _ h1⟩
  rw [cell_of_row _ _ _ _ _ _ h1, Array.getElem?_eq_getElem (by omega)]
  rfl
theorem HdRow.set {W : World} {q n : Nat} {F : Nat → Hd} {k : Nat} (h : HdRow W q n F k) (hk : k < n) (y : Hd) (hy : y = F k) : HdRow (W.setCells q (k * 10) (HC y).toList) q n F (k + 1) := by
  subst hy
  obtain ⟨cs, h1, h2, h3⟩ := h
  refine ⟨_, setCells_heap _ _ _ _ _ _ h1, by rw [setL_size]; exact h2, fun i hi j x hj => ?_⟩
  have hj10 : j < 10 := by have := (List.getElem?_eq_some_iff.1 hj).1; simpa [HC] using this
  have hle : (k + 1) * 10 ≤ n * 10 := Nat.mul_le_mul_right 10 hk
  by_cases e : i = k
  · subst e
    exact setL_in _ _ _ _ _ (by rw [h2]; simp [HC]; omega) hj
  · rw [setL_out _ _ _ _ (by simp [HC]; omega)]
    exact h3 i (by omega) j x hj
theorem HdRow.arg {W : World} {q n : Nat} {F : Nat → Hd} (h : HdRow W q n F n) : HArg W (.slice (some ⟨q, 0, none⟩) n n) n F := by
  obtain ⟨cs, h1, h2, h3⟩ := h
  rcases Nat.eq_zero_or_pos n with rfl | h0
  · exact .inl ⟨rfl, _, _, rfl⟩
  · refine .inr ⟨h0, q, 0, n, rfl, lt_of_heap h1, fun k hk j x hj => ?_⟩
    rw [Nat.zero_add, cell_of_row _ _ _ _ _ _ h1]
    exact h3 k hk j x hj
def BeRel (w : World) (t : Ts) (now : Int) (iv : Value) (wr : World) : Prop := ∃ k : Nat, k ≤ t.n ∧ iv = .int .i64 (k : Int) ∧ Below w.heap.size w wr ∧ wr.heap[w.heap.size]? = some (.cells VZ 25 (0, 0)) ∧ HdRow wr (w.heap.size + 1) t.n (t.F now) k
set_option maxRecDepth 20000 in
set_option maxHeartbeats 4000000 in
theorem best_any {w : World} {b g : Nat} {t : Ts} (h : Tr w b g t) (hok : t.Ok) (now : Int) (hnow : In64 now) : Calls Try.prog 23 #[.pointer (some ⟨b, 0, none⟩), .int .i64 now] w (Chosen w (t.best now) (t.roles now)) := by
  obtain ⟨us, h⟩ := h
  have HT := Lib.hid h
  have HK := Lib.hid hok
  have hbl := h.lt
  have c6 := h.c6
  obtain ⟨cs, hcs, hmk⟩ := make_heards t.n hok.n8 (w.alloc (.cells VZ 25))
  have hsz : (w.alloc (.cells VZ 25)).heap.size = w.heap.size + 1 := by simp
  have HL0 : Hid (HdRow ((w.alloc (.cells VZ 25)).alloc (.cells cs 37)) (w.heap.size + 1) t.n (t.F now) 0) := Lib.hid ⟨cs, heap_alloc2_new w _ _, hcs, fun i hi => by omega⟩
  have HR0 : Hid (((w.alloc (.cells VZ 25)).alloc (.cells cs 37)).heap[w.heap.size]? = some (.cells VZ 25 (0, 0))) := Lib.hid (((bAl (bRef _) _).block _ (by simp)).trans (heap_alloc_new w _))
  have HW0 := Lib.hid (bAl (bAl (bRef w) (.cells VZ 25)) (.cells cs 37))
  have HN := Lib.hid hnow
  have hn8 := hok.n8
  rw [hsz] at hmk
  rw [show VZ = #[.int .i64 0, .int .i64 0, .int .i64 0, .int .i64 0, .int .i64 0, .int .i64 0, .int .i64 0, .int .i64 0] from rfl] at hmk HL0 HR0 HW0
  obtain ⟨n, hn⟩ : ∃ n, n = t.n := ⟨_, rfl⟩
  rw [← hn] at hmk c6 hn8
  have HNn := Lib.hid hn
  clear h hok hcs hsz hnow hn
  go_enter Try.func23, Try.ntmps23
  go_wp2_with fail
  generalize (w.alloc (.cells #[.int .i64 0, .int .i64 0, .int .i64 0, .int .i64 0, .int .i64 0, .int .i64 0, .int .i64 0, .int .i64 0] 25)).alloc (.cells cs 37) = W0 at *
  go_loopw [23] (fun iv wr => BeRel w t now iv wr) (fun iv _ => n - (intOf iv).toNat)
  case atStart => exact ⟨0, by omega, rfl, HW0.out, HR0.out, HL0.out⟩
  case round =>
    clear HL0 HR0 HW0 hmk
    obtain ⟨k, hk, rfl, hb, hr, hl⟩ := hrel
    have HB := Lib.hid hb
    have HR0 := Lib.hid hr
    have HL := Lib.hid hl
    have ht := HT.out.below hb
    have hbl2 := ht.lt
    have c6 : wr.cell? ⟨b, 6, none⟩ = some (.slice (some ⟨g, 0, none⟩) n n) := by rw [HNn.out]; exact ht.c6
    rw [← HNn.out] at hk
    clear hb hl c6
    have c6 : wr.cell? ⟨b, 6, none⟩ = some (.slice (some ⟨g, 0, none⟩) n n) := by rw [HNn.out]; exact ht.c6
    clear c6
    rcases Nat.lt_or_ge k n with g1 | g1
    · have hd : decide ((k : Int) < (n : Int)) = true := decide_eq_true (by omega)
      have hkn : k < t.n := by rw [← HNn.out]; exact g1
      have HP := Lib.hid (ht.port hkn)
      have HM := Lib.hid ht.c5
      obtain ⟨pa, pc, hu⟩ := (ht.path k hkn).slice
      have hpe : t.F now k = ⟨(t.ports k).up, (t.ports k).holds now t.most, (t.ports k).vec⟩ := rfl
      have HHo := Lib.hid (fun W => holds_any (t.ports k) pa (t.ports k).path.length pc now t.most W (HK.out.whens k hkn) HN.out (Int.le_trans (by decide) HK.out.m0) HK.out.m1)
      have HF := Lib.hid hpe
      rw [hu] at HP
      have hir : IntKind.i64.wrap (k : Int) = (k : Int) := by rw [IntKind.wrap_i64]; omega
      have hsz := lt_of_heap hr
      have HNe := Lib.hid (show b ≠ w.heap.size + 1 by obtain ⟨cs', h2, _⟩ := HL.out; exact neq_tag ht.box h2 (by decide))
      have HKn := Lib.hid hkn
      have hls : w.heap.size + 1 < wr.heap.size := by obtain ⟨cs', h2, _⟩ := HL.out; exact lt_of_heap h2
      have hzz : (t.ports k).holds now t.most = (t.ports k).holds now t.most := rfl
      clear hr hpe hu ht hzz
      generalize (t.ports k).holds now t.most = z at *
      generalize t.ports k = q at *
      generalize t.most = most at *
      obtain ⟨up, heard, when_, v, path⟩ := q
      generalize path.length = pl at *
      rw [show KC ⟨up, heard, when_, v, path⟩ (.slice pa pl pc) = #[.bool up, .bool heard, .int .i64 when_, .int .i64 v.r.one, .int .i64 v.r.cls, .int .i64 v.r.two, .int .i64 v.r.id, .int .i64 v.steps, .int .i64 v.from_, .int .i64 v.port, .int .i64 v.at_, .slice pa pl pc] from rfl] at HP HHo
      have HBS : Hid (BS b most ⟨up, heard, when_, v, path⟩ (.slice pa pl pc) wr.heap.size (wr.alloc (.cells #[.bool up, .bool heard, .int .i64 when_, .int .i64 v.r.one, .int .i64 v.r.cls, .int .i64 v.r.two, .int .i64 v.r.id, .int .i64 v.steps, .int .i64 v.from_, .int .i64 v.port, .int .i64 v.at_, .slice pa pl pc] 91))) := Lib.hid ⟨heap_alloc_new wr _, ((bAl (bRef wr) _).cell (p := ⟨b, 5, none⟩) hbl2).trans HM.out⟩
      go_upto_region 7 with ((with_reducible refine at_loadQ ?_); refine wpList_loadW rfl _ _ rfl _ _ rfl #[.bool up, .bool heard, .int .i64 when_, .int .i64 v.r.one, .int .i64 v.r.cls, .int .i64 v.r.two, .int .i64 v.r.id, .int .i64 v.steps, .int .i64 v.from_, .int .i64 v.port, .int .i64 v.at_, .slice pa pl pc] _ HP.out Try.underlying91 rfl (by kernel_rfl) ?_)
      have HLb := Lib.hid (bAl (bRef wr) (.cells #[.bool up, .bool heard, .int .i64 when_, .int .i64 v.r.one, .int .i64 v.r.cls, .int .i64 v.r.two, .int .i64 v.r.id, .int .i64 v.steps, .int .i64 v.from_, .int .i64 v.port, .int .i64 v.at_, .slice pa pl pc] 91))
      generalize wr.alloc (.cells #[.bool up, .bool heard, .int .i64 when_, .int .i64 v.r.one, .int .i64 v.r.cls, .int .i64 v.r.two, .int .i64 v.r.id, .int .i64 v.steps, .int .i64 v.from_, .int .i64 v.port, .int .i64 v.at_, .slice pa pl pc] 91) = W1 at *
      have h0 : BS b most ⟨up, heard, when_, v, path⟩ (.slice pa pl pc) wr.heap.size W1.drew := HBS.out.below ⟨rfl, rfl, rfl, Nat.le_refl _, fun _ _ => rfl⟩
      refine wp_region_held_drew (S := BS b most ⟨up, heard, when_, v, path⟩ (.slice pa pl pc) wr.heap.size) (by kernel_rfl) h0 (fun h0 => ?_)
      refine hTakeS (i := 0) (k := 28) (v := .slice (some ⟨w.heap.size + 1, 0, none⟩) n n) rfl rfl (by kernel_rfl) (by kernel_rfl) (by kernel_rfl) (fun _ _ _ h => h) (yieldsIf_val (by rfl) (by intro W; go_simp)) h0 ?_
      simp only [List.setIfInBounds_toArray, List.set_cons_zero, List.set_cons_succ]
      refine hTakeS (i := 1) (k := 29) (v := .int .i64 (k : Int)) rfl rfl (by kernel_rfl) (by kernel_rfl) (by kernel_rfl) (fun _ _ _ h => h) (yieldsIf_val (by rfl) (by intro W; go_simp)) h0 ?_
      simp only [List.setIfInBounds_toArray, List.set_cons_zero, List.set_cons_succ]
      refine hTakeS (i := 2) (k := 30) (v := .pointer (some ⟨wr.heap.size, 0, none⟩)) rfl rfl (by kernel_rfl) (by kernel_rfl) (by kernel_rfl) (fun _ _ _ h => h) (yieldsIf_val (by rfl) (by intro W; go_simp)) h0 ?_
      simp only [List.setIfInBounds_toArray, List.set_cons_zero, List.set_cons_succ]
      refine hTakeS (i := 3) (k := 31) (v := .bool up) rfl rfl (by kernel_rfl) (by kernel_rfl) (by kernel_rfl) (fun _ _ _ h => h) (.inl ⟨by rfl, fun W hW => (by have c := hW.c0; go_simp)⟩) h0 ?_
      simp only [List.setIfInBounds_toArray, List.set_cons_zero, List.set_cons_succ]
      refine hTakeS (i := 4) (k := 32) (v := .agg #[.bool up, .bool heard, .int .i64 when_, .int .i64 v.r.one, .int .i64 v.r.cls, .int .i64 v.r.two, .int .i64 v.r.id, .int .i64 v.steps, .int .i64 v.from_, .int .i64 v.port, .int .i64 v.at_, .slice pa pl pc]) rfl rfl (by kernel_rfl) (by kernel_rfl) (by kernel_rfl) (fun _ _ _ h => h) (.inl ⟨by rfl, fun W hW => loadOp _ _ rfl _ _ #[.bool up, .bool heard, .int .i64 when_, .int .i64 v.r.one, .int .i64 v.r.cls, .int .i64 v.r.two, .int .i64 v.r.id, .int .i64 v.steps, .int .i64 v.from_, .int .i64 v.port, .int .i64 v.at_, .slice pa pl pc] _ (range_whole hW.box) Try.underlying91 rfl (by kernel_rfl) rfl⟩) h0 ?_
      simp only [List.setIfInBounds_toArray, List.set_cons_zero, List.set_cons_succ]
      refine hTakeS (i := 5) (k := 33) (v := .int .i64 now) rfl rfl (by kernel_rfl) (by kernel_rfl) (by kernel_rfl) (fun _ _ _ h => h) (yieldsIf_val (by rfl) (by intro W; go_simp)) h0 ?_
      simp only [List.setIfInBounds_toArray, List.set_cons_zero, List.set_cons_succ]
      refine hTakeS (i := 6) (k := 34) (v := .pointer (some ⟨b, 0, none⟩)) rfl rfl (by kernel_rfl) (by kernel_rfl) (by kernel_rfl) (fun _ _ _ h => h) (yieldsIf_val (by rfl) (by intro W; go_simp)) h0 ?_
      simp only [List.setIfInBounds_toArray, List.set_cons_zero, List.set_cons_succ]
      refine hTakeS (i := 7) (k := 35) (v := .pointer (some ⟨b, 0, none⟩)) rfl rfl (by kernel_rfl) (by kernel_rfl) (by kernel_rfl) (fun _ _ _ h => h) (yieldsIf_val (by rfl) (by intro W; go_simp)) h0 ?_
      simp only [List.setIfInBounds_toArray, List.set_cons_zero, List.set_cons_succ]
      refine hTakeS (i := 8) (k := 36) (v := .pointer (some ⟨b, 5, none⟩)) rfl rfl (by kernel_rfl) (by kernel_rfl) (by kernel_rfl) (fun _ _ _ h => h) (yieldsIf_val (by rfl) (by intro W; go_simp)) h0 ?_
      simp only [List.setIfInBounds_toArray, List.set_cons_zero, List.set_cons_succ]
      refine hTakeS (i := 9) (k := 37) (v := .int .i64 most) rfl rfl (by kernel_rfl) (by kernel_rfl) (by kernel_rfl) (fun _ _ _ h => h) (.inl ⟨by rfl, fun W hW => (by have c := hW.m; go_simp)⟩) h0 ?_
      simp only [List.setIfInBounds_toArray, List.set_cons_zero, List.set_cons_succ]
      refine hTakeS (i := 11) (k := 39) (v := .pointer (some ⟨wr.heap.size, 3, none⟩)) rfl rfl (by kernel_rfl) (by kernel_rfl) (by kernel_rfl) (fun _ _ _ h => h) (yieldsIf_val (by rfl) (by intro W; go_simp)) h0 ?_
      simp only [List.setIfInBounds_toArray, List.set_cons_zero, List.set_cons_succ]
      refine hTakeS (i := 12) (k := 40) (v := .agg #[.int .i64 v.r.one, .int .i64 v.r.cls, .int .i64 v.r.two, .int .i64 v.r.id, .int .i64 v.steps, .int .i64 v.from_, .int .i64 v.port, .int .i64 v.at_]) rfl rfl (by kernel_rfl) (by kernel_rfl) (by kernel_rfl) (fun _ _ _ h => h) (.inl ⟨by rfl, fun W hW => loadOp _ _ rfl _ _ #[.int .i64 v.r.one, .int .i64 v.r.cls, .int .i64 v.r.two, .int .i64 v.r.id, .int .i64 v.steps, .int .i64 v.from_, .int .i64 v.port, .int .i64 v.at_] _ (range_of_row hW.box 3 _ (kvec ⟨up, heard, when_, v, path⟩ (.slice pa pl pc))) Try.underlying25 rfl (by kernel_rfl) rfl⟩) h0 ?_
      simp only [List.setIfInBounds_toArray, List.set_cons_zero, List.set_cons_succ]
      refine hCallR (i := 10) (k := 38) (by kernel_rfl) rfl rfl (by rfl) 35 #[.agg #[.bool up, .bool heard, .int .i64 when_, .int .i64 v.r.one, .int .i64 v.r.cls, .int .i64 v.r.two, .int .i64 v.r.id, .int .i64 v.steps, .int .i64 v.from_, .int .i64 v.port, .int .i64 v.at_, .slice pa pl pc], .int .i64 now, .int .i64 most] (by go_simp) (HHo.out _) ?_
      rintro e W5 ⟨rfl, hb⟩
      have k5 := h0.below hb
      have HB5 := Lib.hid hb
      clear hb
      refine ⟨_, rfl, k5, ?_⟩
      simp only [List.setIfInBounds_toArray, List.set_cons_zero, List.set_cons_succ]
      refine hTakeS (i := 13) (k := 41) (v := .agg #[.bool up, .bool z, .int .i64 v.r.one, .int .i64 v.r.cls, .int .i64 v.r.two, .int .i64 v.r.id, .int .i64 v.steps, .int .i64 v.from_, .int .i64 v.port, .int .i64 v.at_]) rfl rfl (by kernel_rfl) (by kernel_rfl) (by kernel_rfl) (fun _ _ _ h => h) (yieldsIf_val (by rfl) (fun W => buildOp _ _ rfl #[.bool up, .bool z, .int .i64 v.r.one, .int .i64 v.r.cls, .int .i64 v.r.two, .int .i64 v.r.id, .int .i64 v.steps, .int .i64 v.from_, .int .i64 v.port, .int .i64 v.at_] (by simp only [List.map_toArray, List.map_cons, List.map_nil]; kernel_rfl) W)) k5 ?_
      simp only [List.setIfInBounds_toArray, List.set_cons_zero, List.set_cons_succ]
      refine hTakeS (i := 14) (k := 42) (v := .pointer (some ⟨w.heap.size + 1, k * 10, none⟩)) rfl rfl (by kernel_rfl) (by kernel_rfl) (by kernel_rfl) (fun _ _ _ h => h) (yieldsIf_val (by rfl) (by intro W; go_simp)) k5 ?_
      simp only [List.setIfInBounds_toArray, List.set_cons_zero, List.set_cons_succ]
      have HL5 := Lib.hid (HL.out.below (bTr (bDr1 HLb.out) HB5.out))
      refine hOneNS (i := 15) (by kernel_rfl) rfl rfl (by rfl) (storeMid _ _ _ rfl (w.heap.size + 1) (k * 10) #[.bool up, .bool z, .int .i64 v.r.one, .int .i64 v.r.cls, .int .i64 v.r.two, .int .i64 v.r.id, .int .i64 v.steps, .int .i64 v.from_, .int .i64 v.port, .int .i64 v.at_] rfl rfl (HL5.out.there HKn.out) (by kernel_rfl) (by simp [Value.oneCell'])) (k5.sets (w.heap.size + 1) (by omega) HNe.out _ _) ?_
      refine wpAnyH_done (by kernel_rfl) ?_ _
      have HS5 := Lib.hid (bTr HB.out (bTr (bDr1 HLb.out) HB5.out))
      have HR5 := Lib.hid (((bTr (bDr1 HLb.out) HB5.out).block _ (lt_of_heap HR0.out)).trans HR0.out)
      have HBt := Lib.hid ((ButB.refl (w.heap.size + 1) W5).sets #[.bool up, .bool z, .int .i64 v.r.one, .int .i64 v.r.cls, .int .i64 v.r.two, .int .i64 v.r.id, .int .i64 v.steps, .int .i64 v.from_, .int .i64 v.port, .int .i64 v.at_].toList (k * 10))
      have HL6 := Lib.hid (HL5.out.set HKn.out ⟨up, z, v⟩ HF.out.symm)
      clear k5 h0
      go_wp2_with fail
      go_roundw
      case rel => exact ⟨k + 1, by rw [← HNn.out]; omega, by go_num, HS5.out.trans (HBt.out.below (by omega) HS5.out.size), (HBt.out.block _ (lt_of_heap HR5.out) (by omega)).trans HR5.out, HL6.out⟩
      case measure => simp [intOf]; omega
    · obtain rfl : k = n := by omega
      have hd : decide ((k : Int) < (k : Int)) = false := decide_eq_false (by omega)
      have o1 := ht.c1
      have o2 := ht.c2
      have o3 := ht.c3
      have o4 := ht.c4
      have HLn : Hid (HdRow wr (w.heap.size + 1) k (t.F now) k) := Lib.hid (by have := HL.out; rw [← HNn.out] at this; exact this)
      have HCh := Lib.hid (Choose_any t.own HLn.out.arg (by omega))
      have HRl := Lib.hid (show rolesL t.own.id (chs t.own (t.F now) k) (t.F now) k = t.roles now by unfold Ts.roles Ts.best; rw [← HNn.out])
      have HCl := Lib.hid (show chs t.own (t.F now) k = t.best now by unfold Ts.best; rw [← HNn.out])
      unfold Chosen at HCh
      rw [HRl.out, HCl.out] at HCh
      unfold PC at HCh
      clear ht hr
      go_wp2_with (first
        | (go_at_call 18; (with_reducible refine HCh.out.mono ?_); rintro e w6 ⟨q, rfl, hq, hrow, hb6⟩; have HB6 := Lib.hid hb6; have HRo := Lib.hid hrow; have HQ := Lib.hid hq; have HR6 := Lib.hid ((hb6.block _ (lt_of_heap HR0.out)).trans HR0.out); clear hb6 hrow hq)
        | ((with_reducible refine at_storeV ?_); refine wpList_store_row rfl _ _ _ rfl _ (VC (t.best now)) rfl rfl _ _ HR6.out (by kernel_rfl) rfl (by simp [VC, Value.oneCell']) ?_))
      have hls := lt_of_heap HR0.out
      have hqs := HQ.out
      refine bodyW2 rfl w.heap.size (VC (t.best now)) (.slice (some ⟨q, 0, none⟩) (t.roles now).length (t.roles now).length) _ rfl rfl (setRow_heap _ _ _ _ _ _ HR6.out) Try.underlying25 rfl (by kernel_rfl) rfl ?_
      exact ⟨q, rfl, by omega, (setRow_other _ _ _ _ (by omega)).trans HRo.out, bRow (bTr HB.out HB6.out) _ (Nat.le_refl _) _⟩

end Go.Proofs.Ytholemjbjmkpkaa
