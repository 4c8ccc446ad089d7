/- Package port: left: for how long each class may go out. -/
import Derived.Test.YtllmfkodgalklaaPoOps
namespace Go.Proofs.Ytllmfkodgalklaa
open Go.RowKit Go.Joins

/-- For how long a class may go out from a time on, by a list, and another one that is to come. -/
def leftP (wt : Bool) (fr b c : Int) (ts : List (Int × Int)) (x : Int) (i : Nat) : Int :=
  if wt = true then min (leftV b c ts x (i : Int)) (fr - x) else leftV b c ts x (i : Int)
theorem o8_set (r : Nat → Int) {w : World} {b i : Nat} (h : w.heap[b]? = some (o8 r)) (hi : i < 8) (v : Int) : (w.setCell ⟨b, i, none⟩ (.int .i64 v)).heap[b]? = some (o8 (upd r i v)) := by
  have h1 := heap_setCell_same w b i _ _ (.int .i64 v) h
  rw [h1]
  rcases eight_cases hi with rfl | rfl | rfl | rfl | rfl | rfl | rfl | rfl <;> rfl
theorem o8_frozen (r : Nat → Int) {w : World} {b : Nat} (h : w.heap[b]? = some (o8 r)) (i : Nat) : w.frozen? ⟨b, i, none⟩ = false := frozen_of_row _ _ _ _ _ h
theorem set8o {w : World} {k : Nat} {t : TypeId} {a0 a1 a2 a3 a4 a5 a6 a7 : Value} (h : w.heap[k]? = some (.cells #[a0, a1, a2, a3, a4, a5, a6, a7] t (0, 0))) (x0 x1 x2 x3 x4 x5 x6 x7 : Value) :
    ((((((((w.setCell ⟨k, 0, none⟩ x0).setCell ⟨k, 1, none⟩ x1).setCell ⟨k, 2, none⟩ x2).setCell ⟨k, 3, none⟩ x3).setCell ⟨k, 4, none⟩ x4).setCell ⟨k, 5, none⟩ x5).setCell ⟨k, 6, none⟩ x6).setCell ⟨k, 7, none⟩ x7).heap[k]? = some (.cells #[x0, x1, x2, x3, x4, x5, x6, x7] t (0, 0)) := by
  have h0 : (w.setCell ⟨k, 0, none⟩ x0).heap[k]? = some (.cells #[x0, a1, a2, a3, a4, a5, a6, a7] t (0, 0)) := heap_setCell_same w _ 0 _ _ x0 h
  have h1 : ((w.setCell ⟨k, 0, none⟩ x0).setCell ⟨k, 1, none⟩ x1).heap[k]? = some (.cells #[x0, x1, a2, a3, a4, a5, a6, a7] t (0, 0)) := heap_setCell_same (w.setCell ⟨k, 0, none⟩ x0) _ 1 _ _ x1 h0
  have h2 : (((w.setCell ⟨k, 0, none⟩ x0).setCell ⟨k, 1, none⟩ x1).setCell ⟨k, 2, none⟩ x2).heap[k]? = some (.cells #[x0, x1, x2, a3, a4, a5, a6, a7] t (0, 0)) := heap_setCell_same ((w.setCell ⟨k, 0, none⟩ x0).setCell ⟨k, 1, none⟩ x1) _ 2 _ _ x2 h1
  have h3 : ((((w.setCell ⟨k, 0, none⟩ x0).setCell ⟨k, 1, none⟩ x1).setCell ⟨k, 2, none⟩ x2).setCell ⟨k, 3, none⟩ x3).heap[k]? = some (.cells #[x0, x1, x2, x3, a4, a5, a6, a7] t (0, 0)) := heap_setCell_same (((w.setCell ⟨k, 0, none⟩ x0).setCell ⟨k, 1, none⟩ x1).setCell ⟨k, 2, none⟩ x2) _ 3 _ _ x3 h2
  have h4 : (((((w.setCell ⟨k, 0, none⟩ x0).setCell ⟨k, 1, none⟩ x1).setCell ⟨k, 2, none⟩ x2).setCell ⟨k, 3, none⟩ x3).setCell ⟨k, 4, none⟩ x4).heap[k]? = some (.cells #[x0, x1, x2, x3, x4, a5, a6, a7] t (0, 0)) := heap_setCell_same ((((w.setCell ⟨k, 0, none⟩ x0).setCell ⟨k, 1, none⟩ x1).setCell ⟨k, 2, none⟩ x2).setCell ⟨k, 3, none⟩ x3) _ 4 _ _ x4 h3
  have h5 : ((((((w.setCell ⟨k, 0, none⟩ x0).setCell ⟨k, 1, none⟩ x1).setCell ⟨k, 2, none⟩ x2).setCell ⟨k, 3, none⟩ x3).setCell ⟨k, 4, none⟩ x4).setCell ⟨k, 5, none⟩ x5).heap[k]? = some (.cells #[x0, x1, x2, x3, x4, x5, a6, a7] t (0, 0)) := heap_setCell_same (((((w.setCell ⟨k, 0, none⟩ x0).setCell ⟨k, 1, none⟩ x1).setCell ⟨k, 2, none⟩ x2).setCell ⟨k, 3, none⟩ x3).setCell ⟨k, 4, none⟩ x4) _ 5 _ _ x5 h4
  have h6 : (((((((w.setCell ⟨k, 0, none⟩ x0).setCell ⟨k, 1, none⟩ x1).setCell ⟨k, 2, none⟩ x2).setCell ⟨k, 3, none⟩ x3).setCell ⟨k, 4, none⟩ x4).setCell ⟨k, 5, none⟩ x5).setCell ⟨k, 6, none⟩ x6).heap[k]? = some (.cells #[x0, x1, x2, x3, x4, x5, x6, a7] t (0, 0)) := heap_setCell_same ((((((w.setCell ⟨k, 0, none⟩ x0).setCell ⟨k, 1, none⟩ x1).setCell ⟨k, 2, none⟩ x2).setCell ⟨k, 3, none⟩ x3).setCell ⟨k, 4, none⟩ x4).setCell ⟨k, 5, none⟩ x5) _ 6 _ _ x6 h5
  have h7 : ((((((((w.setCell ⟨k, 0, none⟩ x0).setCell ⟨k, 1, none⟩ x1).setCell ⟨k, 2, none⟩ x2).setCell ⟨k, 3, none⟩ x3).setCell ⟨k, 4, none⟩ x4).setCell ⟨k, 5, none⟩ x5).setCell ⟨k, 6, none⟩ x6).setCell ⟨k, 7, none⟩ x7).heap[k]? = some (.cells #[x0, x1, x2, x3, x4, x5, x6, x7] t (0, 0)) := heap_setCell_same (((((((w.setCell ⟨k, 0, none⟩ x0).setCell ⟨k, 1, none⟩ x1).setCell ⟨k, 2, none⟩ x2).setCell ⟨k, 3, none⟩ x3).setCell ⟨k, 4, none⟩ x4).setCell ⟨k, 5, none⟩ x5).setCell ⟨k, 6, none⟩ x6) _ 7 _ _ x7 h6
  exact h7
def LfRel (W : World) (b c : Int) (sl : Value) (l : Nat → Int) (iv : Value) (wr : World) : Prop :=
  ∃ i : Nat, iv = .int .i64 (i : Int) ∧ i ≤ 8 ∧ Below W.heap.size W wr ∧ LB wr W.heap.size b c sl ∧ wr.heap[W.heap.size + 1]? = some (o8 (fun _ => 0)) ∧ wr.heap[W.heap.size + 1 + 1]? = some (o8 (fun j => if j < i then l j else 0))
set_option maxHeartbeats 1000000 in
theorem pleft_any {w0 W : World} {k L : Nat} {F : Nat → Prop} {p : PL} {s : LS} (h : PoL w0 W k L F p s) (b c : Int) (sl : Value) (ts : List (Int × Int)) (ht : TArg W sl ts) (x : Int) (hx : inNow x) :
    Calls Try.prog 31 #[.pointer (some ⟨k, 0, none⟩), LV b c sl, .int .i64 x] W fun e w' => e = .returned (a8 (leftP p.wt p.fr b c ts x)) ∧ Below W.heap.size W w' := by
  have HA := Lib.hid ht
  have HP := Lib.hid h
  have HX := Lib.hid hx
  obtain ⟨sp, sc, rfl⟩ := ht.slice
  generalize ts.length = n at *
  obtain ⟨l, hl⟩ : ∃ l, l = leftP p.wt p.fr b c ts x := ⟨_, rfl⟩
  have HLD := Lib.hid hl
  rw [← hl]
  clear h ht hx hl
  go_enter Try.func31, Try.ntmps31
  go_wp2_with fail
  go_loopw [12] (fun iv wr => LfRel W b c (.slice sp n sc) l iv wr) (fun iv _ => 8 - (intOf iv).toNat)
  case atStart =>
    have e1 := heap_alloc_one W (.cells #[.int .i64 b, .int .i64 c, .slice sp n sc] 24)
    have e2 := heap_alloc_one (W.alloc (.cells #[.int .i64 b, .int .i64 c, .slice sp n sc] 24)) (o8 (fun _ => 0))
    have e3 := heap_alloc_one ((W.alloc (.cells #[.int .i64 b, .int .i64 c, .slice sp n sc] 24)).alloc (o8 (fun _ => 0))) (o8 (fun _ => 0))
    refine ⟨0, rfl, by omega, bAl (bAl (bAl (bRef W) _) _) _, ?_, ?_, ?_⟩
    · exact (heap_alloc_old _ _ (r := W.heap.size) (by simp; omega)).trans ((heap_alloc_old _ _ (r := W.heap.size) (by simp)).trans e1)
    · rw [show (W.alloc (.cells #[.int .i64 b, .int .i64 c, .slice sp n sc] 24)).heap.size = W.heap.size + 1 by simp] at e2
      exact (heap_alloc_old _ _ (r := W.heap.size + 1) (by simp)).trans e2
    · simpa [o8] using e3
  case round =>
    obtain ⟨i, rfl, hi, hb, h0, h1, h2⟩ := hrel
    have HB := Lib.hid hb
    have H0 := Lib.hid h0
    have H1 := Lib.hid h1
    have H2 := Lib.hid h2
    have HT := Lib.hid (HA.out.below hb)
    have HLV := Lib.hid (fun W (k : TArg W (.slice sp n sc) ts) => left_any b c (.slice sp n sc) ts x W (i : Int) k)
    obtain ⟨v, hv⟩ : ∃ v, leftV b c ts x (i : Int) = v := ⟨_, rfl⟩
    have HV := Lib.hid hv
    rw [hv] at HLV
    clear hb h0 h1 h2 hv
    rcases Nat.lt_or_ge i 8 with g | g
    · have d0 : decide ((i : Int) < 8) = true := decide_eq_true (by omega)
      have i1 : (0 : Int) ≤ (i : Int) := by omega
      have i2 : (i : Int) < 8 := by omega
      go_upto_region 7 with (go_at_call 26; (with_reducible refine (HLV.out _ HT.out).mono ?_); rintro e w1 ⟨rfl, hb⟩; have HB1 := Lib.hid (bTr HB.out hb); have K0 := Lib.hid (H0.out.below hb); have K1 := Lib.hid ((hb.block _ (lt_of_heap H1.out)).trans H1.out); have K2 := Lib.hid ((hb.block _ (lt_of_heap H2.out)).trans H2.out); have f2 := o8_frozen _ K2.out i; have c2 := o8_cells _ K2.out g; clear hb)
      have hn : (fun j => if j < i + 1 then l j else 0) = upd (fun j => if j < i then l j else 0) i (l i) := by
        funext j
        unfold upd
        by_cases e : j = i
        · subst e; simp
        · rw [if_neg e]
          show _ = (if j < i then l j else 0)
          by_cases e2 : j < i
          · rw [if_pos e2, if_pos (by omega)]
          · rw [if_neg e2, if_neg (by omega)]
      have HN := Lib.hid hn
      have k2 := o8_set _ K2.out g v
      have k0 : LB (w1.setCell ⟨W.heap.size + 1 + 1, i, none⟩ (.int .i64 v)) W.heap.size b c (.slice sp n sc) := (heap_setCell_other w1 ⟨W.heap.size + 1 + 1, i, none⟩ _ _ (by simp; omega)).trans K0.out
      have k1 : (w1.setCell ⟨W.heap.size + 1 + 1, i, none⟩ (.int .i64 v)).heap[W.heap.size + 1]? = some (o8 (fun _ => 0)) := (heap_setCell_other w1 ⟨W.heap.size + 1 + 1, i, none⟩ _ _ (by simp)).trans K1.out
      have kb := HB1.out.setCell (p := ⟨W.heap.size + 1 + 1, i, none⟩) (by show W.heap.size ≤ W.heap.size + 1 + 1; omega) (.int .i64 v)
      have HLL : Hid (l i = if p.wt = true then min v (p.fr - x) else v) := Lib.hid (by rw [HLD.out]; unfold leftP; rw [HV.out])
      generalize (w1.setCell ⟨W.heap.size + 1 + 1, i, none⟩ (.int .i64 v)) = w2 at *
      have J0 := Lib.hid k0
      have J1 := Lib.hid k1
      have J2 := Lib.hid k2
      have JB := Lib.hid kb
      obtain ⟨gg, hgg⟩ := (HP.out.below kb).gs
      obtain ⟨-, -, -, -, -, -, r6, r7⟩ := hgg.gt.cells
      rw [hgg.e5] at r6
      rw [hgg.e6] at r7
      have q2 := o8_cells _ k2 g
      rw [upd_same] at q2
      have q3 := o8_frozen _ k2 i
      have HF0 := Lib.hid HP.out.fine
      clear k0 k1 k2 kb hn hgg f2 c2
      cases hwt : p.wt with
      | false =>
        rw [hwt] at r7
        have HW := Lib.hid hwt
        clear hwt
        go_wp2_with fail
        go_roundw
        case rel =>
          refine ⟨i + 1, by go_num, by omega, JB.out, J0.out, J1.out, ?_⟩
          rw [HN.out, HLL.out, HW.out, if_neg (by decide)]
          exact J2.out
        case measure => simp [intOf]; omega
      | true =>
        rw [hwt] at r7
        have HW := Lib.hid hwt
        have es : wrap64 (p.fr - x) = p.fr - x := by have := HF0.out.f0; have := HF0.out.f1; have := HX.out.1; have := HX.out.2; unfold wrap64; omega
        have hs0 : (w2.drew.setCell ⟨W.heap.size + 1 + 1, i, none⟩ (.int .i64 (min v (p.fr - x)))).cell? ⟨k, 6, none⟩ = some (.int .i64 p.fr) := by
          rw [World.cell?_of_block (heap_setCell_other w2.drew ⟨W.heap.size + 1 + 1, i, none⟩ _ _ (by have := HP.out.klt; simp; omega))]
          exact r6
        have HST := Lib.hid hs0
        have esk : IntKind.i64.wrap (p.fr - x) = p.fr - x := by rw [IntKind.wrap_i64]; have := HF0.out.f0; have := HF0.out.f1; have := HX.out.1; have := HX.out.2; omega
        clear hwt hs0
        go_wp2_with fail
        refine wp_region_held_drew (S := fun V => V.cell? ⟨k, 6, none⟩ = some (.int .i64 p.fr)) (by kernel_rfl) r6 (fun h0 => ?_)
        refine hTakeS (i := 0) (k := 26) (v := .int .i64 (i : Int)) rfl rfl (by kernel_rfl) (by kernel_rfl) (by kernel_rfl) (fun _ _ _ h => h) (yieldsIf_val (by rfl) (by intro W; go_simp)) h0 ?_
        simp only [List.setIfInBounds_toArray, List.set_cons_zero, List.set_cons_succ]
        refine hTakeS (i := 1) (k := 27) (v := .int .i64 (i : Int)) rfl rfl (by kernel_rfl) (by kernel_rfl) (by kernel_rfl) (fun _ _ _ h => h) (yieldsIf_val (by rfl) (by intro W; go_simp)) h0 ?_
        simp only [List.setIfInBounds_toArray, List.set_cons_zero, List.set_cons_succ]
        refine hTakeS (i := 2) (k := 28) (v := .pointer (some ⟨W.heap.size + 1 + 1, i, none⟩)) rfl rfl (by kernel_rfl) (by kernel_rfl) (by kernel_rfl) (fun _ _ _ h => h) (yieldsIf_val (by rfl) (by intro W; go_simp)) h0 ?_
        simp only [List.setIfInBounds_toArray, List.set_cons_zero, List.set_cons_succ]
        refine hTakeS (i := 4) (k := 30) (v := .pointer (some ⟨k, 0, none⟩)) rfl rfl (by kernel_rfl) (by kernel_rfl) (by kernel_rfl) (fun _ _ _ h => h) (yieldsIf_val (by rfl) (by intro W; go_simp)) h0 ?_
        simp only [List.setIfInBounds_toArray, List.set_cons_zero, List.set_cons_succ]
        refine hTakeS (i := 5) (k := 31) (v := .pointer (some ⟨k, 0, none⟩)) rfl rfl (by kernel_rfl) (by kernel_rfl) (by kernel_rfl) (fun _ _ _ h => h) (yieldsIf_val (by rfl) (by intro W; go_simp)) h0 ?_
        simp only [List.setIfInBounds_toArray, List.set_cons_zero, List.set_cons_succ]
        refine hTakeS (i := 6) (k := 32) (v := .pointer (some ⟨k, 0, none⟩)) rfl rfl (by kernel_rfl) (by kernel_rfl) (by kernel_rfl) (fun _ _ _ h => h) (yieldsIf_val (by rfl) (by intro W; go_simp)) h0 ?_
        simp only [List.setIfInBounds_toArray, List.set_cons_zero, List.set_cons_succ]
        refine hTakeS (i := 7) (k := 33) (v := .pointer (some ⟨k, 6, none⟩)) rfl rfl (by kernel_rfl) (by kernel_rfl) (by kernel_rfl) (fun _ _ _ h => h) (yieldsIf_val (by rfl) (by intro W; go_simp)) h0 ?_
        simp only [List.setIfInBounds_toArray, List.set_cons_zero, List.set_cons_succ]
        refine hTakeS (i := 8) (k := 34) (v := .int .i64 p.fr) rfl rfl (by kernel_rfl) (by kernel_rfl) (by kernel_rfl) (fun _ _ _ h => h) (.inl ⟨by rfl, fun W hW => by go_simp⟩) h0 ?_
        simp only [List.setIfInBounds_toArray, List.set_cons_zero, List.set_cons_succ]
        refine hTakeS (i := 9) (k := 35) (v := .int .i64 x) rfl rfl (by kernel_rfl) (by kernel_rfl) (by kernel_rfl) (fun _ _ _ h => h) (yieldsIf_val (by rfl) (by intro W; go_simp)) h0 ?_
        simp only [List.setIfInBounds_toArray, List.set_cons_zero, List.set_cons_succ]
        refine hTakeS (i := 10) (k := 36) (v := .int .i64 (p.fr - x)) rfl rfl (by kernel_rfl) (by kernel_rfl) (by kernel_rfl) (fun _ _ _ h => h) (yieldsIf_val (by rfl) (by intro W; go_simp)) h0 ?_
        simp only [List.setIfInBounds_toArray, List.set_cons_zero, List.set_cons_succ]
        refine hOneS (i := 3) (k := 29) (v := .int .i64 v) (by kernel_rfl) rfl rfl (by rfl) (by go_simp) h0 ?_
        simp only [List.setIfInBounds_toArray, List.set_cons_zero, List.set_cons_succ]
        refine hTakeS (i := 11) (k := 37) (v := .int .i64 (min v (p.fr - x))) rfl rfl (by kernel_rfl) (by kernel_rfl) (by kernel_rfl) (fun _ _ _ h => h) (yieldsIf_val (by rfl) (by intro W; go_simp)) h0 ?_
        simp only [List.setIfInBounds_toArray, List.set_cons_zero, List.set_cons_succ]
        refine hTakeS (i := 12) (k := 38) (v := .pointer (some ⟨W.heap.size + 1 + 1, i, none⟩)) rfl rfl (by kernel_rfl) (by kernel_rfl) (by kernel_rfl) (fun _ _ _ h => h) (yieldsIf_val (by rfl) (by intro W; go_simp)) h0 ?_
        simp only [List.setIfInBounds_toArray, List.set_cons_zero, List.set_cons_succ]
        refine hOneNS (i := 13) (w' := (w2.drew.setCell ⟨W.heap.size + 1 + 1, i, none⟩ (.int .i64 (min v (p.fr - x))))) (by kernel_rfl) rfl rfl (by rfl) (by go_simp) HST.out ?_
        refine wpAnyH_done (by kernel_rfl) ?_ _
        go_wp2_with fail
        refine ⟨⟨i + 1, by go_num, by omega, ?_, ?_, ?_, ?_⟩, by simp [intOf]; omega⟩
        · exact bDr1 (JB.out.setCell (p := ⟨W.heap.size + 1 + 1, i, none⟩) (by show W.heap.size ≤ W.heap.size + 1 + 1; omega) _)
        · exact (heap_setCell_other w2 ⟨W.heap.size + 1 + 1, i, none⟩ _ _ (by simp; omega)).trans J0.out
        · exact (heap_setCell_other w2 ⟨W.heap.size + 1 + 1, i, none⟩ _ _ (by simp)).trans J1.out
        · have := o8_set _ J2.out g (min v (p.fr - x))
          rw [HN.out, HLL.out, HW.out, if_pos rfl]
          refine this.trans (congrArg (fun r => some (o8 r)) ?_)
          funext j
          unfold upd
          by_cases e : j = i
          · rw [if_pos e, if_pos e]
          · rw [if_neg e, if_neg e, if_neg e]
    · obtain rfl : i = 8 := by omega
      have d0 : decide (((8 : Nat) : Int) < 8) = false := by decide
      have c0 := o8_cells _ H2.out (k := 0) (by omega)
      have c1 := o8_cells _ H2.out (k := 1) (by omega)
      have c2 := o8_cells _ H2.out (k := 2) (by omega)
      have c3 := o8_cells _ H2.out (k := 3) (by omega)
      have c4 := o8_cells _ H2.out (k := 4) (by omega)
      have c5 := o8_cells _ H2.out (k := 5) (by omega)
      have c6 := o8_cells _ H2.out (k := 6) (by omega)
      have c7 := o8_cells _ H2.out (k := 7) (by omega)
      have z0 := o8_cells _ H1.out (k := 0) (by omega)
      have z1 := o8_cells _ H1.out (k := 1) (by omega)
      have z2 := o8_cells _ H1.out (k := 2) (by omega)
      have z3 := o8_cells _ H1.out (k := 3) (by omega)
      have z4 := o8_cells _ H1.out (k := 4) (by omega)
      have z5 := o8_cells _ H1.out (k := 5) (by omega)
      have z6 := o8_cells _ H1.out (k := 6) (by omega)
      have z7 := o8_cells _ H1.out (k := 7) (by omega)
      have f0 := o8_frozen _ H1.out 0
      have f1 := o8_frozen _ H1.out 1
      have f2 := o8_frozen _ H1.out 2
      have f3 := o8_frozen _ H1.out 3
      have f4 := o8_frozen _ H1.out 4
      have f5 := o8_frozen _ H1.out 5
      have f6 := o8_frozen _ H1.out 6
      have f7 := o8_frozen _ H1.out 7
      simp only [Nat.reduceLT, if_true] at c0 c1 c2 c3 c4 c5 c6 c7
      go_wp2_with fail
      refine bodyPost_ret (results_cell_row rfl _ _ (W.heap.size + 1) 31 _ (0, 0) _ rfl (set8o H1.out _ _ _ _ _ _ _ _) Try.underlying31 rfl (by kernel_rfl)) rfl ⟨rfl, ?_⟩
      exact bSet (bSet (bSet (bSet (bSet (bSet (bSet (bSet HB.out _ (by simp) _) _ (by simp) _) _ (by simp) _) _ (by simp) _) _ (by simp) _) _ (by simp) _) _ (by simp) _) _ (by simp) _

end Go.Proofs.Ytllmfkodgalklaa
