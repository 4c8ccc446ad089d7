/- A port as a law has it; the document's example. -/
import Derived.Test.YtllmfkodgalklaaPoWhen
namespace Go.Proofs.Ytllmfkodgalklaa
open Go.RowKit Go.Joins

/-- A port whose blocks are all the call's own. -/
def PB (w0 W : World) (k L : Nat) (p : PL) (s : LS) : Prop := ∃ F, PoL w0 W k L F p s
abbrev PP (k : Nat) : Value := .pointer (some ⟨k, 0, none⟩)
abbrev IV (x : It) : Value := .agg #[.int .i64 x.1, .int .i64 x.2.1, .bool x.2.2]
section
variable {w0 W W' : World} {k L : Nat} {p : PL} {s : LS}
theorem PB.of {W0 : World} {F : Nat → Prop} (h : PLeft w0 W0 k L F p s W) : PB w0 W k L p s := by obtain ⟨F', h, _⟩ := h; exact ⟨F', h⟩
theorem PB.below (h : PB w0 W k L p s) (hb : Below W.heap.size W W') : PB w0 W' k L p s := by obtain ⟨F, h⟩ := h; exact ⟨F, h.below hb⟩
theorem PB.bel (h : PB w0 W k L p s) : Below w0.heap.size w0 W := by obtain ⟨F, h⟩ := h; exact h.bel
theorem pb_put (h : PB w0 W k L p s) (c x0 x1 : Int) (x2 : Bool) : Calls Try.prog 13 #[PP k, .int .i64 c, .agg #[.int .i64 x0, .int .i64 x1, .bool x2]] W fun e w' => e = .returned (.int .i64 (s.pute c (x0, x1, x2))) ∧ PB w0 w' k L p (s.put c (x0, x1, x2)) := by
  obtain ⟨F, h⟩ := h
  exact (pput h c x0 x1 x2).mono fun e w' hh => ⟨hh.1, .of hh.2⟩
theorem pb_next (h : PB w0 W k L p s) (x : Int) (hx : inNow x) {cv i0 i1 : Int} {i2 ok : Bool} {s' : LS} (hk : Picks L s (leftOf p x) cv (i0, i1, i2) ok s') : Calls Try.prog 11 #[PP k, .int .i64 x] W fun e w' => e = .returned (.tuple #[.agg #[.int .i64 i0, .int .i64 i1, .bool i2], .int .i64 cv, .bool ok]) ∧ PB w0 w' k L (p.turn x) s' := by
  obtain ⟨F, h⟩ := h
  exact (pnext_gen h h.bel.size x hx hk).mono fun e w' hh => ⟨hh.1, .of hh.2⟩
theorem pb_when (h : PB w0 W k L p s) (hn : clsN s 8 ≠ []) (x : Int) (hx : inNow x) : Calls Try.prog 12 #[PP k, .int .i64 x] W fun e w' => e = .returned (.tuple #[.int .i64 (whenV p s x).1, .bool (whenV p s x).2]) ∧ PB w0 w' k L (p.turn x) s := by
  obtain ⟨F, h⟩ := h
  exact (pwhen_some h hn x hx).mono fun e w' hh => ⟨hh.1, .of hh.2⟩
theorem pb_when_no (h : PB w0 W k L p s) (hn : clsN s 8 = []) (x : Int) : Calls Try.prog 12 #[PP k, .int .i64 x] W fun e w' => e = .returned (.tuple #[.int .i64 0, .bool false]) ∧ PB w0 w' k L p s := by
  obtain ⟨F, h⟩ := h
  exact (pwhen_none h hn x).mono fun e w' hh => ⟨hh.1, F, h.below hh.2⟩
theorem pb_new (hw0 : Below w0.heap.size w0 W) (b c : Int) (sl : Value) (ts : List (Int × Int)) (ht : TArg W sl ts) (hz : chkV b c ts = 0) (r : Int) (h0 : 0 ≤ r) (h1 : r ≤ 4096) : Calls Try.prog 8 #[LV b c sl, .agg #[.int .i64 r, .int .i64 r, .int .i64 r, .int .i64 r, .int .i64 r, .int .i64 r, .int .i64 r, .int .i64 r]] W fun e w' => ∃ k L, e = .returned (.tuple #[PP k, .int .i64 0]) ∧ W.heap.size ≤ k ∧ PB w0 w' k L (PL.new b c ts) (LS.new (fun _ => r)) ∧ Below W.heap.size W w' :=
  (pnew_ok hw0 b c sl ts ht hz (fun _ => r) (fun _ _ => ⟨h0, h1⟩)).mono fun e w' hh => by
    obtain ⟨k, L, e1, e2, _, e3, e4⟩ := hh
    exact ⟨k, L, e1, e2, ⟨_, e3⟩, e4⟩
theorem pb_change (h : PB w0 W k L p s) (b c : Int) (sl : Value) (ts : List (Int × Int)) (ht : TArg W sl ts) (hne : 0 < ts.length → sl.ownBlock ≠ some k) (hz : chkV b c ts = 0) (x : Int) (hx : inNow x) : Calls Try.prog 14 #[PP k, LV b c sl, .int .i64 x] W fun e w' => e = .returned (.int .i64 0) ∧ PB w0 w' k L (p.chg b c ts x) s := by
  obtain ⟨F, h⟩ := h
  exact (pchange_ok h b c sl ts ht hne hz x hx).mono fun e w' hh => ⟨hh.1, .of hh.2⟩
end
instance (x : Int) : Decidable (In64 x) := by unfold In64; infer_instance
theorem eight_lit (n : Int) (w : World) : Calls Try.prog 9 #[.int .i64 n] w fun e w' => e = .returned (.agg #[.int .i64 n, .int .i64 n, .int .i64 n, .int .i64 n, .int .i64 n, .int .i64 n, .int .i64 n, .int .i64 n]) ∧ Below w.heap.size w w' := eight_ret n w
theorem targ_two {w : World} {g : Nat} {a0 r0 a1 r1 : Int} (h : w.heap[g]? = some (.cells #[.int .i64 a0, .int .i64 r0, .int .i64 a1, .int .i64 r1] 64 (0, 0))) (h0 : In64 a0) (h1 : In64 r0) (h2 : In64 a1) (h3 : In64 r1) : TArg w (.slice (some ⟨g, 0, none⟩) 2 2) [(a0, r0), (a1, r1)] := by
  refine ⟨fun k hk => ?_, .inr ⟨by simp, g, 0, 2, rfl, by simp, lt_of_heap h, fun k hk => ?_⟩⟩
  · match k, hk with
    | 0, _ => exact ⟨h0, h1⟩
    | 1, _ => exact ⟨h2, h3⟩
  · match k, hk with
    | 0, _ => exact ⟨cell_of_row _ _ 0 _ _ _ h, cell_of_row _ _ 1 _ _ _ h⟩
    | 1, _ => exact ⟨cell_of_row _ _ 2 _ _ _ h, cell_of_row _ _ 3 _ _ _ h⟩
theorem targ_one {w : World} {g : Nat} {a0 r0 : Int} (h : w.heap[g]? = some (.cells #[.int .i64 a0, .int .i64 r0] 64 (0, 0))) (h0 : In64 a0) (h1 : In64 r0) : TArg w (.slice (some ⟨g, 0, none⟩) 1 1) [(a0, r0)] := by
  refine ⟨fun k hk => ?_, .inr ⟨by simp, g, 0, 1, rfl, by simp, lt_of_heap h, fun k hk => ?_⟩⟩
  · match k, hk with
    | 0, _ => exact ⟨h0, h1⟩
  · match k, hk with
    | 0, _ => exact ⟨cell_of_row _ _ 0 _ _ _ h, cell_of_row _ _ 1 _ _ _ h⟩
def exT : List (Int × Int) := [(128, 1000), (127, 9000)]
def exP : PL := PL.new 0 10000 exT
def exS : LS := { LS.new (fun _ => 4) with q := upd (LS.new (fun _ => 4)).q 7 [(1, 64, false)] }
theorem ex_put : (LS.new (fun _ => 4)).put 7 (1, 64, false) = exS := by
  unfold LS.put
  rw [if_pos (by rfl)]
  rfl
theorem ex_q {c : Nat} (h : c ≠ 7) : exS.q c = [] := upd_other _ _ h
theorem ex_no : ∀ c, c < 8 → ¬ fits exS (leftOf exP 600) c := fun c hc h => by
  by_cases e : c = 7
  · subst e
    obtain ⟨x, L, h1, h2⟩ := h
    have : exS.q 7 = [(1, 64, false)] := rfl
    rw [this] at h1
    injection h1 with h1 _
    subst h1
    exact absurd h2 (by decide)
  · obtain ⟨x, L, h1, _⟩ := h
    rw [ex_q e] at h1
    cases h1
theorem ex_yes (L : Nat) : Picks L exS (leftOf exP 10400) ((7 : Nat) : Int) (1, 64, false) true { exS with q := upd exS.q 7 [] } := by
  refine Picks.some (c := 7) (by omega) rfl (by decide) fun d h1 h2 => by omega
set_option maxHeartbeats 2000000 in
theorem lhead_ret (w : World) : Calls Try.prog 7 #[] w fun e w' => e = .returned (.bool true) ∧ Below w.heap.size w w' := by
  have HE := Lib.hid (fun n W => eight_lit n W)
  have hB : Below w.heap.size w ((w.alloc (.cells #[.int .i64 128, .int .i64 1000, .int .i64 127, .int .i64 9000] 64)).alloc (.cells #[.int .i64 0, .int .i64 10000, .slice (some ⟨w.heap.size, 0, none⟩) 2 2] 24)).drew := (bAl (bAl (bRef w) _) _).trans ⟨rfl, rfl, rfl, Nat.le_refl _, fun _ _ => rfl⟩
  have hT : TArg ((w.alloc (.cells #[.int .i64 128, .int .i64 1000, .int .i64 127, .int .i64 9000] 64)).alloc (.cells #[.int .i64 0, .int .i64 10000, .slice (some ⟨w.heap.size, 0, none⟩) 2 2] 24)).drew (.slice (some ⟨w.heap.size, 0, none⟩) 2 2) exT :=
    targ_two ((heap_alloc_old _ _ (r := w.heap.size) (by simp)).trans (heap_alloc_one w _)) (by decide) (by decide) (by decide) (by decide)
  have HB := Lib.hid hB
  have HT := Lib.hid hT
  have hq : ((w.alloc (.cells #[.int .i64 128, .int .i64 1000, .int .i64 127, .int .i64 9000] 64)).alloc (.cells #[.int .i64 0, .int .i64 10000, .slice (some ⟨w.heap.size, 0, none⟩) 2 2] 24)).drew.heap[w.heap.size + 1]? = some (.cells #[.int .i64 0, .int .i64 10000, .slice (some ⟨w.heap.size, 0, none⟩) 2 2] 24 (0, 0)) := heap_alloc_two' w _ _
  have HS := Lib.hid (And.intro (cell_of_row _ _ 0 _ _ _ hq) (And.intro (cell_of_row _ _ 1 _ _ _ hq) (cell_of_row _ _ 2 _ _ _ hq)))
  clear hB hT hq
  go_enter Try.func7, Try.ntmps7
  go_wp2_with fail
  refine wp_region_held_drew (S := fun V => V.cell? ⟨w.heap.size + 1, 0, none⟩ = some (.int .i64 0) ∧ V.cell? ⟨w.heap.size + 1, 1, none⟩ = some (.int .i64 10000) ∧ V.cell? ⟨w.heap.size + 1, 2, none⟩ = some (.slice (some ⟨w.heap.size, 0, none⟩) 2 2)) (by kernel_rfl) HS.out (fun h0 => ?_)
  refine hTakeS (i := 0) (k := 17) (v := LV 0 10000 (.slice (some ⟨w.heap.size, 0, none⟩) 2 2)) rfl rfl (by kernel_rfl) (by kernel_rfl) (by kernel_rfl) (fun _ _ _ h => h) (.inl ⟨by rfl, fun W hW => by obtain ⟨b0, b1, b2⟩ := hW; go_simp⟩) h0 ?_
  simp only [List.setIfInBounds_toArray, List.set_cons_zero, List.set_cons_succ]
  refine hCallR (i := 1) (k := 18) (by kernel_rfl) rfl rfl (by rfl) 9 #[.int .i64 4] (by go_simp) (HE.out 4 _) ?_
  rintro e v1 ⟨rfl, hb1⟩
  have s1 := And.intro ((hb1.cell (block_lt_cell h0.1)).trans h0.1) (And.intro ((hb1.cell (block_lt_cell h0.2.1)).trans h0.2.1) ((hb1.cell (block_lt_cell h0.2.2)).trans h0.2.2))
  refine ⟨_, rfl, s1, ?_⟩
  simp only [List.setIfInBounds_toArray, List.set_cons_zero, List.set_cons_succ]
  refine hCallR (i := 2) (k := 19) (by kernel_rfl) rfl rfl (by rfl) 8 #[LV 0 10000 (.slice (some ⟨w.heap.size, 0, none⟩) 2 2), .agg #[.int .i64 4, .int .i64 4, .int .i64 4, .int .i64 4, .int .i64 4, .int .i64 4, .int .i64 4, .int .i64 4]] (by go_simp) (pb_new (w0 := w) (HB.out.trans (hb1.mono HB.out.size)) 0 10000 _ exT (HT.out.below hb1) (by decide) 4 (by decide) (by decide)) ?_
  rintro e v2 ⟨k, L, rfl, -, hpb, hb2⟩
  have s2 := And.intro ((hb2.cell (block_lt_cell s1.1)).trans s1.1) (And.intro ((hb2.cell (block_lt_cell s1.2.1)).trans s1.2.1) ((hb2.cell (block_lt_cell s1.2.2)).trans s1.2.2))
  have H2 := Lib.hid hpb
  refine ⟨_, rfl, s2, ?_⟩
  simp only [List.setIfInBounds_toArray, List.set_cons_zero, List.set_cons_succ]
  refine hTakeS (i := 3) (k := 16) (v := .tuple #[.pointer (some ⟨k, 0, none⟩), .int .i64 0]) rfl rfl (by kernel_rfl) (by kernel_rfl) (by kernel_rfl) (fun _ _ _ h => h) (yieldsIf_val (by rfl) (by intro W; go_simp)) s2 ?_
  simp only [List.setIfInBounds_toArray, List.set_cons_zero, List.set_cons_succ]
  refine hTakeS (i := 4) (k := 20) (v := .pointer (some ⟨k, 0, none⟩)) rfl rfl (by kernel_rfl) (by kernel_rfl) (by kernel_rfl) (fun _ _ _ h => h) (yieldsIf_val (by rfl) (by intro W; go_simp)) s2 ?_
  simp only [List.setIfInBounds_toArray, List.set_cons_zero, List.set_cons_succ]
  refine hTakeS (i := 5) (k := 21) (v := .int .i64 0) rfl rfl (by kernel_rfl) (by kernel_rfl) (by kernel_rfl) (fun _ _ _ h => h) (yieldsIf_val (by rfl) (by intro W; go_simp)) s2 ?_
  simp only [List.setIfInBounds_toArray, List.set_cons_zero, List.set_cons_succ]
  refine hTakeS (i := 6) (k := 2) (v := .pointer (some ⟨k, 0, none⟩)) rfl rfl (by kernel_rfl) (by kernel_rfl) (by kernel_rfl) (fun _ _ _ h => h) (yieldsIf_val (by rfl) (by intro W; go_simp)) s2 ?_
  simp only [List.setIfInBounds_toArray, List.set_cons_zero, List.set_cons_succ]
  refine hTakeS (i := 7) (k := 3) (v := .int .i64 0) rfl rfl (by kernel_rfl) (by kernel_rfl) (by kernel_rfl) (fun _ _ _ h => h) (yieldsIf_val (by rfl) (by intro W; go_simp)) s2 ?_
  simp only [List.setIfInBounds_toArray, List.set_cons_zero, List.set_cons_succ]
  refine wpAnyH_done (by kernel_rfl) ?_ _
  clear s1 s2 hpb hb1 hb2 h0
  have HPU : Hid (Calls Try.prog 13 #[PP k, .int .i64 7, .agg #[.int .i64 1, .int .i64 64, .bool false]] v2 fun e w' => e = .returned (.int .i64 0) ∧ PB w w' k L exP exS) := Lib.hid ((pb_put H2.out 7 1 64 false).mono fun e w' hh => ⟨hh.1, by rw [← ex_put]; exact hh.2⟩)
  go_wp2_with (first
    | (go_at_call 13; (with_reducible refine (HPU.out).mono ?_); rintro e v3 ⟨rfl, hp⟩; have HNX := Lib.hid (pb_next hp 600 (by decide) (Picks.none ex_no)); clear hp)
    | (go_at_call 11; (with_reducible refine (HNX.out).mono ?_); rintro e v4 ⟨rfl, hp⟩; have HWN : Hid (∀ W', Below v4.heap.size v4 W' → Calls Try.prog 12 #[PP k, .int .i64 600] W' fun e w' => e = .returned (.tuple #[.int .i64 10000, .bool true]) ∧ PB w w' k L exP exS) := Lib.hid (fun W' hb => pb_when (hp.below hb) (by decide) 600 (by decide)); clear hp)
    | (go_at_call 12; (with_reducible refine (HWN.out _ (bAl (bRef v4) _)).mono ?_); rintro e v5 ⟨rfl, hp⟩; have HNY := Lib.hid (pb_next hp 10400 (by decide) (ex_yes L)); clear hp)
    | (go_at_call 11; (with_reducible refine (HNY.out).mono ?_); rintro e v6 ⟨rfl, hp⟩; have H6 := Lib.hid (hp.below (bAl (bRef v6) (.cells #[.int .i64 1, .int .i64 64, .bool false] 35))); clear hp))
  go_ret
  exact ⟨rfl, H6.out.bel⟩

end Go.Proofs.Ytllmfkodgalklaa
