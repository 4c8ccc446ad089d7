/- Package best: First. -/
import Derived.Test.YtihddpoaemhlnaaBtLaw
import Derived.Test.YtihddpoaemhlnaaBtLoad
namespace Go.Proofs.Ytihddpoaemhlnaa
open Go.RowKit Go.Joins Go.Deep

def PArg (w : World) (v : Value) (n : Nat) (G : Nat → Pri) : Prop :=
  (n = 0 ∧ ∃ a c, v = .slice a 0 c) ∨ (0 < n ∧ ∃ b o c, v = .slice (some ⟨b, o, none⟩) n c ∧ b < w.heap.size ∧ ∀ k, k < n → w.rangeAt b (o + k * 4) (PC (G k)).toList)
theorem PArg.below {w w' : World} {v : Value} {n : Nat} {G : Nat → Pri} (h : PArg w v n G) (hb : Below w.heap.size w w') : PArg w' v n G := by
  rcases h with h | ⟨h0, b, o, c, e, h1, h2⟩
  · exact .inl h
  · exact .inr ⟨h0, b, o, c, e, Nat.lt_of_lt_of_le h1 hb.size, fun k hk => range_below (h2 k hk) hb h1⟩
theorem PArg.slice {w : World} {v : Value} {n : Nat} {G : Nat → Pri} (h : PArg w v n G) : ∃ p c, v = .slice p n c := by
  rcases h with ⟨rfl, p, c, rfl⟩ | ⟨_, b, o, c, rfl, _⟩
  · exact ⟨p, c, rfl⟩
  · exact ⟨_, c, rfl⟩
theorem PArg.at {w : World} {p : Option Addr} {n c : Nat} {G : Nat → Pri} (h : PArg w (.slice p n c) n G) (h0 : 0 < n) : ∃ b o, p = some ⟨b, o, none⟩ ∧ b < w.heap.size ∧ ∀ k, k < n → w.rangeAt b (o + k * 4) (PC (G k)).toList := by
  rcases h with ⟨e, _⟩ | ⟨_, b, o, c', e, h1, h2⟩
  · omega
  · injection e with e1 e2 e3
    exact ⟨b, o, e1, h1, h2⟩
theorem parg_of {w : World} {v : Value} {n : Nat} (h : SlArg 4 OkptpPrior w v n) : ∃ G, PArg w v n G := by
  rcases h with ⟨rfl, a, c, rfl⟩ | ⟨h0, b, o, c, F, rfl, hb, hF⟩
  · exact ⟨fun _ => ⟨0, 0, 0, 0⟩, .inl ⟨rfl, a, c, rfl⟩⟩
  · have each : ∀ k, k < n → ∃ h : Pri, F k = (PC h).toList := fun k hk => by
      obtain ⟨z0, z1, z2, z3, e, _⟩ := (hF k hk).1
      exact ⟨⟨z0, z1, z2, z3⟩, e⟩
    have : Inhabited Pri := ⟨⟨0, 0, 0, 0⟩⟩
    obtain ⟨G, hG⟩ := choose_lt each
    refine ⟨G, .inr ⟨h0, b, o, c, rfl, hb, fun k hk j x hj => ?_⟩⟩
    have hl : j < 4 := by have := (List.getElem?_eq_some_iff.1 hj).1; simpa [PC] using this
    rw [(hF k hk).2.2 j hl, hG k hk]
    exact hj
/-- The first of the best of the first so many; none: as many as there are not. -/
def fst (G : Nat → Pri) : Nat → Option Nat
  | 0 => none
  | k + 1 => match fst G k with
    | none => some k
    | some f => if (G k).cmp (G f) < 0 then some k else some f
def fstI : Option Nat → Int
  | none => -1
  | some f => (f : Int)
theorem fst_none (G : Nat → Pri) (k : Nat) (h : fst G k = none) : fst G (k + 1) = some k := by
  show (match fst G k with | none => some k | some f => if (G k).cmp (G f) < 0 then some k else some f) = _
  rw [h]
theorem fst_some (G : Nat → Pri) (k f : Nat) (h : fst G k = some f) : fst G (k + 1) = if (G k).cmp (G f) < 0 then some k else some f := by
  show (match fst G k with | none => some k | some f => if (G k).cmp (G f) < 0 then some k else some f) = _
  rw [h]
theorem pri_anti (a b : Pri) : a.cmp b = -b.cmp a := lx_anti _ _
theorem pri_le (a b c : Pri) (h : a.cmp b ≤ 0) (k : b.cmp c ≤ 0) : a.cmp c ≤ 0 := lx_le_trans (l := a.row) (m := b.row) (n := c.row) rfl rfl h k
theorem pri_lt_le (a b c : Pri) (h : a.cmp b < 0) (k : b.cmp c ≤ 0) : a.cmp c < 0 := lx_lt_le (l := a.row) (m := b.row) (n := c.row) rfl rfl h k
theorem pri_self (a : Pri) : a.cmp a = 0 := lx_self _
/-- It is no worse than any, and better than all ahead of it. -/
theorem fst_spec (G : Nat → Pri) : ∀ n, 0 < n → ∃ f, fst G n = some f ∧ f < n ∧ ∀ k, k < n → (G f).cmp (G k) ≤ 0 ∧ (k < f → (G f).cmp (G k) < 0)
  | 0, h => by omega
  | n + 1, _ => by
    rcases Nat.eq_zero_or_pos n with rfl | h0
    · refine ⟨0, rfl, by omega, fun k hk => ?_⟩
      obtain rfl : k = 0 := by omega
      exact ⟨Int.le_of_eq (pri_self _), fun h => by omega⟩
    · obtain ⟨f, h1, h2, h3⟩ := fst_spec G n h0
      rw [fst_some G n f h1]
      by_cases hc : (G n).cmp (G f) < 0
      · rw [if_pos hc]
        refine ⟨n, rfl, by omega, fun k hk => ?_⟩
        rcases Nat.lt_or_eq_of_le (Nat.lt_succ_iff.1 hk) with e | rfl
        · have := pri_lt_le _ _ _ hc (h3 k e).1
          exact ⟨Int.le_of_lt this, fun _ => this⟩
        · exact ⟨Int.le_of_eq (pri_self _), fun h => by omega⟩
      · rw [if_neg hc]
        refine ⟨f, rfl, by omega, fun k hk => ?_⟩
        rcases Nat.lt_or_eq_of_le (Nat.lt_succ_iff.1 hk) with e | rfl
        · exact h3 k e
        · have := pri_anti (G f) (G k)
          exact ⟨by omega, fun h => by omega⟩
structure LF (w : World) (v : Pri) (bx : Nat) (V : World) : Prop where
  bel : Below w.heap.size w V
  box : V.heap[bx]? = some (.cells (PC v) 23 (0, 0))
theorem LF.below {w V V' : World} {v : Pri} {bx : Nat} (h : LF w v bx V) (hb : Below V.heap.size V V') : LF w v bx V' := ⟨bTr h.bel hb, (hb.block _ (lt_of_heap h.box)).trans h.box⟩
theorem LF.drew {w V : World} {v : Pri} {bx : Nat} (h : LF w v bx V) : LF w v bx V.drew := h.below ⟨rfl, rfl, rfl, Nat.le_refl _, fun _ _ => rfl⟩
def FiRel (w : World) (G : Nat → Pri) (n : Nat) (fv iv : Value) (wr : World) : Prop := ∃ k : Nat, k ≤ n ∧ iv = .int .i64 (k : Int) ∧ fv = .int .i64 (fstI (fst G k)) ∧ Below w.heap.size w wr
set_option maxRecDepth 20000 in
set_option maxHeartbeats 4000000 in
theorem first_any {w : World} {v : Value} {n : Nat} {G : Nat → Pri} (hA : PArg w v n G) (hn : n ≤ 1000) : Calls Try.prog 20 #[v] w fun e w' => e = .returned (.int .i64 (fstI (fst G n))) ∧ Below w.heap.size w w' := by
  obtain ⟨a, c, rfl⟩ := hA.slice
  have HA := Lib.hid hA
  have HN := Lib.hid hn
  clear hA
  go_enter Try.func20, Try.ntmps20
  go_wp2_with fail
  go_loopw [3, 8] (fun fv iv wr => FiRel w G n fv iv wr) (fun _ iv _ => n - (intOf iv).toNat)
  case atStart => exact ⟨0, by omega, rfl, rfl, bRef w⟩
  case round =>
    obtain ⟨k, hk, rfl, rfl, hb⟩ := hrel
    have HB := Lib.hid hb
    clear hb
    have hn := HN.out
    rcases Nat.lt_or_ge k n with g | g
    · have hd : decide ((k : Int) < (n : Int)) = true := decide_eq_true (by omega)
      obtain ⟨b, o, rfl, hlt, hall⟩ := HA.out.at (by omega)
      have HR := Lib.hid (range_below (hall k g) HB.out hlt)
      rcases hq : fst G k with _ | f
      · have HS := Lib.hid (fst_none G k hq)
        have H0 : Hid (LF w (G k) wr.heap.size (wr.alloc (.cells (PC (G k)) 23))) := Lib.hid ⟨bAl HB.out _, heap_alloc_new wr _⟩
        clear hall hq
        generalize G k = v at *
        rw [show PC v = #[.int .i64 v.one, .int .i64 v.cls, .int .i64 v.two, .int .i64 v.id] from rfl] at HR H0
        unfold fstI
        go_upto_region 5 with ((with_reducible refine at_loadP ?_); refine wpList_loadW rfl _ _ rfl _ _ rfl #[.int .i64 v.one, .int .i64 v.cls, .int .i64 v.two, .int .i64 v.id] _ (HR.out) Try.underlying23 rfl (by kernel_rfl) ?_)
        generalize wr.alloc (.cells #[.int .i64 v.one, .int .i64 v.cls, .int .i64 v.two, .int .i64 v.id] 23) = W1 at *
        have h0 := H0.out.drew
        refine wp_region_held_drew (S := LF w v wr.heap.size) (by kernel_rfl) h0 (fun h0 => ?_)
        refine hTakeS (i := 0) (k := 13) (v := .int .i64 (-1)) rfl rfl (by kernel_rfl) (by kernel_rfl) (by kernel_rfl) (fun _ _ _ h => h) (yieldsIf_val (by rfl) (by intro W; go_simp)) h0 ?_
        simp only [List.setIfInBounds_toArray, List.set_cons_zero, List.set_cons_succ]
        refine hTakeS (i := 1) (k := 14) (v := .bool true) rfl rfl (by kernel_rfl) (by kernel_rfl) (by kernel_rfl) (fun _ _ _ h => h) (yieldsIf_val (by rfl) (by intro W; go_simp)) h0 ?_
        simp only [List.setIfInBounds_toArray, List.set_cons_zero, List.set_cons_succ]
        refine hTakeS (i := 2) (k := 15) (v := .bool true) rfl rfl (by kernel_rfl) (by kernel_rfl) (by kernel_rfl) (fun _ _ _ h => h) (yieldsIf_val (by rfl) (by intro W; go_simp)) h0 ?_
        simp only [List.setIfInBounds_toArray, List.set_cons_zero, List.set_cons_succ]
        refine hTakeS (i := 3) (k := 16) (v := undef) rfl rfl (by kernel_rfl) (by kernel_rfl) (by kernel_rfl) (fun _ _ _ h => h) (yieldsIf_skip (by rfl)) h0 ?_
        simp only [List.setIfInBounds_toArray, List.set_cons_zero, List.set_cons_succ]
        refine hTakeS (i := 4) (k := 17) (v := undef) rfl rfl (by kernel_rfl) (by kernel_rfl) (by kernel_rfl) (fun _ _ _ h => h) (yieldsIf_skip (by rfl)) h0 ?_
        simp only [List.setIfInBounds_toArray, List.set_cons_zero, List.set_cons_succ]
        refine hTakeS (i := 5) (k := 18) (v := undef) rfl rfl (by kernel_rfl) (by kernel_rfl) (by kernel_rfl) (fun _ _ _ h => h) (yieldsIf_skip (by rfl)) h0 ?_
        simp only [List.setIfInBounds_toArray, List.set_cons_zero, List.set_cons_succ]
        refine hTakeS (i := 6) (k := 19) (v := undef) rfl rfl (by kernel_rfl) (by kernel_rfl) (by kernel_rfl) (fun _ _ _ h => h) (yieldsIf_skip (by rfl)) h0 ?_
        simp only [List.setIfInBounds_toArray, List.set_cons_zero, List.set_cons_succ]
        refine hTakeS (i := 7) (k := 20) (v := undef) rfl rfl (by kernel_rfl) (by kernel_rfl) (by kernel_rfl) (fun _ _ _ h => h) (yieldsIf_skip (by rfl)) h0 ?_
        simp only [List.setIfInBounds_toArray, List.set_cons_zero, List.set_cons_succ]
        refine hTakeS (i := 8) (k := 21) (v := undef) rfl rfl (by kernel_rfl) (by kernel_rfl) (by kernel_rfl) (fun _ _ _ h => h) (yieldsIf_skip (by rfl)) h0 ?_
        simp only [List.setIfInBounds_toArray, List.set_cons_zero, List.set_cons_succ]
        refine hTakeS (i := 9) (k := 22) (v := undef) rfl rfl (by kernel_rfl) (by kernel_rfl) (by kernel_rfl) (fun _ _ _ h => h) (yieldsIf_skip (by rfl)) h0 ?_
        simp only [List.setIfInBounds_toArray, List.set_cons_zero, List.set_cons_succ]
        refine hTakeS (i := 10) (k := 23) (v := .bool true) rfl rfl (by kernel_rfl) (by kernel_rfl) (by kernel_rfl) (fun _ _ _ h => h) (yieldsIf_val (by rfl) (by intro W; go_simp)) h0 ?_
        simp only [List.setIfInBounds_toArray, List.set_cons_zero, List.set_cons_succ]
        refine wpAnyH_done (by kernel_rfl) ?_ _
        have HW := Lib.hid h0.bel
        clear h0 H0
        go_wp2_with fail
        go_roundw
        case rel => exact ⟨k + 1, by omega, by go_num, by rw [HS.out]; rfl, HW.out⟩
        case measure => simp [intOf]; omega
      · obtain ⟨f', h1, h2, _⟩ := fst_spec G k (by
          rcases Nat.eq_zero_or_pos k with rfl | h
          · cases hq
          · exact h)
        obtain rfl : f = f' := by rw [hq] at h1; injection h1
        have HS := Lib.hid (fst_some G k f hq)
        have HU := Lib.hid (fun W (hb : Below w.heap.size w W) => range_below (hall f (by omega)) hb hlt)
        have H0 : Hid (LF w (G k) wr.heap.size (wr.alloc (.cells (PC (G k)) 23))) := Lib.hid ⟨bAl HB.out _, heap_alloc_new wr _⟩
        have HPc := Lib.hid (fun W => pcmp_any (G k) (G f) W)
        have hfn : f < n := by omega
        have hfd : decide ((f : Int) < (n : Int)) = true := decide_eq_true (by omega)
        have hf1 : ((f : Int) == -1) = false := by rw [beq_eq_false_iff_ne]; omega
        have hir : IntKind.i64.wrap (f : Int) = (f : Int) := by rw [IntKind.wrap_i64]; omega
        have hfz : ¬ (f : Int) < 0 := by omega
        clear hall hq h1
        generalize G k = v at *
        generalize G f = u at *
        rw [show PC v = #[.int .i64 v.one, .int .i64 v.cls, .int .i64 v.two, .int .i64 v.id] from rfl] at HR H0 HPc
        rw [show PC u = #[.int .i64 u.one, .int .i64 u.cls, .int .i64 u.two, .int .i64 u.id] from rfl] at HPc HU
        generalize v.cmp u = z at *
        unfold fstI
        go_upto_region 5 with ((with_reducible refine at_loadP ?_); refine wpList_loadW rfl _ _ rfl _ _ rfl #[.int .i64 v.one, .int .i64 v.cls, .int .i64 v.two, .int .i64 v.id] _ (HR.out) Try.underlying23 rfl (by kernel_rfl) ?_)
        generalize wr.alloc (.cells #[.int .i64 v.one, .int .i64 v.cls, .int .i64 v.two, .int .i64 v.id] 23) = W1 at *
        have h0 := H0.out.drew
        refine wp_region_held_drew (S := LF w v wr.heap.size) (by kernel_rfl) h0 (fun h0 => ?_)
        refine hTakeS (i := 0) (k := 13) (v := .int .i64 (f : Int)) rfl rfl (by kernel_rfl) (by kernel_rfl) (by kernel_rfl) (fun _ _ _ h => h) (yieldsIf_val (by rfl) (by intro W; go_simp)) h0 ?_
        simp only [List.setIfInBounds_toArray, List.set_cons_zero, List.set_cons_succ]
        refine hTakeS (i := 1) (k := 14) (v := .bool false) rfl rfl (by kernel_rfl) (by kernel_rfl) (by kernel_rfl) (fun _ _ _ h => h) (yieldsIf_val (by rfl) (by intro W; go_simp)) h0 ?_
        simp only [List.setIfInBounds_toArray, List.set_cons_zero, List.set_cons_succ]
        refine hTakeS (i := 2) (k := 15) (v := .bool false) rfl rfl (by kernel_rfl) (by kernel_rfl) (by kernel_rfl) (fun _ _ _ h => h) (yieldsIf_val (by rfl) (by intro W; go_simp)) h0 ?_
        simp only [List.setIfInBounds_toArray, List.set_cons_zero, List.set_cons_succ]
        refine hTakeS (i := 3) (k := 16) (v := .agg #[.int .i64 v.one, .int .i64 v.cls, .int .i64 v.two, .int .i64 v.id]) rfl rfl (by kernel_rfl) (by kernel_rfl) (by kernel_rfl) (fun _ _ _ h => h) (.inl ⟨by rfl, fun W hW => loadOp _ _ rfl _ _ #[.int .i64 v.one, .int .i64 v.cls, .int .i64 v.two, .int .i64 v.id] _ (range_whole hW.box) Try.underlying23 rfl (by kernel_rfl) rfl⟩) h0 ?_
        simp only [List.setIfInBounds_toArray, List.set_cons_zero, List.set_cons_succ]
        refine hTakeS (i := 4) (k := 17) (v := .slice (some ⟨b, o, none⟩) n c) rfl rfl (by kernel_rfl) (by kernel_rfl) (by kernel_rfl) (fun _ _ _ h => h) (yieldsIf_val (by rfl) (by intro W; go_simp)) h0 ?_
        simp only [List.setIfInBounds_toArray, List.set_cons_zero, List.set_cons_succ]
        refine hTakeS (i := 5) (k := 18) (v := .int .i64 (f : Int)) rfl rfl (by kernel_rfl) (by kernel_rfl) (by kernel_rfl) (fun _ _ _ h => h) (yieldsIf_val (by rfl) (by intro W; go_simp)) h0 ?_
        simp only [List.setIfInBounds_toArray, List.set_cons_zero, List.set_cons_succ]
        refine hTakeS (i := 6) (k := 19) (v := .pointer (some ⟨b, o + f * 4, none⟩)) rfl rfl (by kernel_rfl) (by kernel_rfl) (by kernel_rfl) (fun _ _ _ h => h) (yieldsIf_val (by rfl) (by intro W; go_simp)) h0 ?_
        simp only [List.setIfInBounds_toArray, List.set_cons_zero, List.set_cons_succ]
        refine hTakeS (i := 7) (k := 20) (v := .agg #[.int .i64 u.one, .int .i64 u.cls, .int .i64 u.two, .int .i64 u.id]) rfl rfl (by kernel_rfl) (by kernel_rfl) (by kernel_rfl) (fun _ _ _ h => h) (.inl ⟨by rfl, fun W hW => loadOp _ _ rfl _ _ #[.int .i64 u.one, .int .i64 u.cls, .int .i64 u.two, .int .i64 u.id] _ (HU.out W hW.bel) Try.underlying23 rfl (by kernel_rfl) rfl⟩) h0 ?_
        simp only [List.setIfInBounds_toArray, List.set_cons_zero, List.set_cons_succ]
        refine hCallR (i := 8) (k := 21) (by kernel_rfl) rfl rfl (by rfl) 13 #[.agg #[.int .i64 v.one, .int .i64 v.cls, .int .i64 v.two, .int .i64 v.id], .agg #[.int .i64 u.one, .int .i64 u.cls, .int .i64 u.two, .int .i64 u.id]] (by go_simp) (HPc.out _) ?_
        rintro e W5 ⟨rfl, hb⟩
        have h5 := h0.below hb
        clear hb
        refine ⟨_, rfl, h5, ?_⟩
        simp only [List.setIfInBounds_toArray, List.set_cons_zero, List.set_cons_succ]
        refine hTakeS (i := 9) (k := 22) (v := .bool (decide (z < 0))) rfl rfl (by kernel_rfl) (by kernel_rfl) (by kernel_rfl) (fun _ _ _ h => h) (yieldsIf_val (by rfl) (by intro W; go_simp)) h5 ?_
        simp only [List.setIfInBounds_toArray, List.set_cons_zero, List.set_cons_succ]
        refine hTakeS (i := 10) (k := 23) (v := .bool (decide (z < 0))) rfl rfl (by kernel_rfl) (by kernel_rfl) (by kernel_rfl) (fun _ _ _ h => h) (yieldsIf_val (by rfl) (by intro W; go_simp)) h5 ?_
        simp only [List.setIfInBounds_toArray, List.set_cons_zero, List.set_cons_succ]
        refine wpAnyH_done (by kernel_rfl) ?_ _
        have HW := Lib.hid h5.bel
        clear h0 H0 h5
        by_cases hz : z < 0
        · go_wp2_with fail
          go_roundw
          case rel => exact ⟨k + 1, by omega, by go_num, by rw [HS.out, if_pos hz]; rfl, HW.out⟩
          case measure => simp [intOf]; omega
        · go_wp2_with fail
          go_roundw
          case rel => exact ⟨k + 1, by omega, by go_num, by rw [HS.out, if_neg (by omega)]; rfl, HW.out⟩
          case measure => simp [intOf]; omega
    · obtain rfl : k = n := by omega
      have hd : decide ((k : Int) < (k : Int)) = false := decide_eq_false (by omega)
      go_wp2_with fail
      go_ret
      exact ⟨rfl, HB.out⟩

end Go.Proofs.Ytihddpoaemhlnaa
