/- Package sync: Own, Tell. -/
import Derived.Test.YtfeoppbincldfaaPsFol
namespace Go.Proofs.Ytfeoppbincldfaa
open Go.RowKit Go.Joins

section
variable {w : World} {b : Nat} {s : CS}
theorem own_new (h : Ck w b s) (ho : s.own = false) (hk : s.known = false) (x : Int) : Calls Try.prog 30 #[.pointer (some ⟨b, 0, none⟩), .bool true, .int .i64 x] w fun e w' => e = .returned (.tuple #[]) ∧ LeaveC b w { s with own := true, opn := false } w' := by
  have HA := Lib.hid (at_none h hk ho x)
  have H := Lib.hid h
  have c1 := h.c1
  rw [ho] at c1
  have hlt := h.lt
  clear h
  go_enter Try.func30, Try.ntmps30
  go_wp2_with (go_at_call 25; (with_reducible refine HA.out.mono ?_); rintro e w1 ⟨rfl, hb⟩; have h1 := H.out.below hb; have k1 := h1.c1; have k6 := h1.c6; have kf := h1.fz; have s1 := h1.set 1 (.bool true) (s' := { s with own := true }) rfl; have HF := Lib.hid (s1.set 6 (.bool false) (s' := { s with own := true, opn := false }) rfl); have HG := Lib.hid (set_but (set_but (ButB.of_below (b := b) hb) 1 (.bool true)) 6 (.bool false)); clear hb h1 s1)
  go_end0
  exact ⟨rfl, HF.out, HG.out⟩
theorem own_known (h : Ck w b s) (ho : s.own = false) (hk : s.known = true) {x g y : Int} (ha : AtOk s x g y) : Calls Try.prog 30 #[.pointer (some ⟨b, 0, none⟩), .bool true, .int .i64 x] w fun e w' => e = .returned (.tuple #[]) ∧ LeaveC b w { s.knows x y s.now with own := true, opn := false } w' := by
  have HA := Lib.hid (at_ok h hk ha)
  have H := Lib.hid h
  have c1 := h.c1
  rw [ho] at c1
  have hlt := h.lt
  have HR : Hid (∀ W, Ck W b s → Calls Try.prog 48 #[.pointer (some ⟨b, 0, none⟩)] W fun e w' => e = .returned (.int .i64 s.now) ∧ w' = W) := Lib.hid (fun W h => ratec_any h)
  clear h ha
  generalize s.now = r at *
  go_enter Try.func30, Try.ntmps30
  go_wp2_with (first
    | (go_at_call 25; (with_reducible refine HA.out.mono ?_); rintro e w1 ⟨rfl, hb⟩; have H1 := Lib.hid (H.out.below hb); have HG1 := Lib.hid (ButB.of_below (b := b) hb); clear hb)
    | (go_at_call 48; (with_reducible refine (HR.out _ H1.out).mono ?_); rintro e w2 ⟨rfl, rfl⟩)
    | (go_at_call 50; (with_reducible refine (know_any H1.out _ _ _).mono ?_); rintro e w3 ⟨rfl, h1, hb⟩; have k1 := h1.c1; have k6 := h1.c6; have kf := h1.fz; have s1 := h1.set 1 (.bool true) (s' := { s.knows x y r with own := true }) rfl; have HF := Lib.hid (s1.set 6 (.bool false) (s' := { s.knows x y r with own := true, opn := false }) rfl); have HG := Lib.hid (set_but (set_but (HG1.out.trans hb) 1 (.bool true)) 6 (.bool false)); clear hb h1 s1))
  go_end0
  exact ⟨rfl, HF.out, HG.out⟩
theorem Try.builtFolO (s : CS) (q sr po y : Int) : Try.prog.built 37 [(0, .int .i64 8), (1, .int .i64 s.dom), (2, .int .i64 q), (3, .int .i64 sr), (4, .int .i64 po), (6, .int .i64 y), (9, .int .i64 2199023255552)] = some (MC (FolM s.dom q sr po 0 y 2199023255552) (.slice none 0 0)) := by kernel_rfl
set_option maxRecDepth 20000 in
set_option maxHeartbeats 4000000 in
theorem tell_own (h : Ck w b s) (ho : s.own = true) (q sr po : Int) {x y : Int} (hd : Hd s.dom q sr po) (iy : In64 y) (ir : In64 s.rate)
    (HA : ∀ W, Ck W b s → Calls Try.prog 25 #[.pointer (some ⟨b, 0, none⟩), .int .i64 x] W fun e w' => e = .returned (.tuple #[.int .i64 y, .bool true]) ∧ Below W.heap.size W w') :
    Calls Try.prog 31 #[.pointer (some ⟨b, 0, none⟩), .int .i64 q, .int .i64 sr, .int .i64 po, .int .i64 x] w fun e w' => e = .returned (.tuple #[.agg (MC (FolM s.dom q sr po 0 y 2199023255552) (.slice none 0 0)), .bool true]) ∧ Below w.heap.size w w' := by
  have hb0 := bAl (bRef w) (.cells #[.int .i64 0, .int .i64 0, .int .i64 0, .int .i64 0, .int .i64 0, .int .i64 0, .int .i64 0, .int .i64 0, .int .i64 0, .int .i64 0, .int .i64 0, .int .i64 0, .int .i64 0, .int .i64 0, .int .i64 0, .slice none 0 0] 37)
  have HAt := Lib.hid (HA _ (h.below hb0))
  have H := Lib.hid (h.below hb0)
  have HZ := Lib.hid (heap_alloc_new w (.cells #[.int .i64 0, .int .i64 0, .int .i64 0, .int .i64 0, .int .i64 0, .int .i64 0, .int .i64 0, .int .i64 0, .int .i64 0, .int .i64 0, .int .i64 0, .int .i64 0, .int .i64 0, .int .i64 0, .int .i64 0, .slice none 0 0] 37))
  have HB0 := Lib.hid hb0
  have hlt := h.lt
  have HR : Hid (∀ W, Ck W b s → Calls Try.prog 48 #[.pointer (some ⟨b, 0, none⟩)] W fun e w' => e = .returned (.int .i64 2199023255552) ∧ w' = W) := Lib.hid (fun W h => by
    have key := ratec_any h
    unfold CS.now at key
    rw [ho] at key
    exact key)
  have HC := Lib.hid (fun W => fol_to (corr := 0) (time := y) (rate := 2199023255552) W hd in64_0 iy (show In64 2199023255552 from ⟨by decide, by decide⟩))
  clear h hb0 HA hd iy ir
  go_enter Try.func31, Try.ntmps31
  go_wp2_with (go_at_call 25; (with_reducible refine HAt.out.mono ?_); rintro e w1 ⟨rfl, hb⟩; have h1 := H.out.below hb; have hB1 := bTr HB0.out hb; have hz1 := (hb.block _ (lt_of_heap HZ.out)).trans HZ.out; clear hb)
  have hz1l := lt_of_heap hz1
  have h1l := h1.lt
  have hN : (w1.drew.alloc (.cells #[.int .i64 0, .int .i64 0, .int .i64 0, .int .i64 0, .int .i64 0, .int .i64 0, .int .i64 0, .int .i64 0, .int .i64 0, .int .i64 0, .int .i64 0, .int .i64 0, .int .i64 0, .int .i64 0, .int .i64 0, .slice none 0 0] 37)).setRow w1.heap.size (MC (FolM s.dom q sr po 0 y 2199023255552) (.slice none 0 0)) = w1.drew.alloc (.cells (MC (FolM s.dom q sr po 0 y 2199023255552) (.slice none 0 0)) 37) := setRow_newM w1.drew _ _ _ _
  have h0 : (fun V => Ck V b s) w1.drew := h1
  refine wp_region_held_drew (S := fun V => Ck V b s) (by kernel_rfl) h0 (fun h0 => ?_)
  refine hTakeS (i := 0) (k := 24) (v := .pointer (some ⟨b, 0, none⟩)) rfl rfl (by kernel_rfl) (by kernel_rfl) (by kernel_rfl) (fun _ _ _ h => h) (yieldsIf_val (by rfl) (by intro W; go_simp)) h0 ?_
  simp only [List.setIfInBounds_toArray, List.set_cons_zero, List.set_cons_succ]
  refine hTakeS (i := 1) (k := 25) (v := .pointer (some ⟨b, 0, none⟩)) rfl rfl (by kernel_rfl) (by kernel_rfl) (by kernel_rfl) (fun _ _ _ h => h) (yieldsIf_val (by rfl) (by intro W; go_simp)) h0 ?_
  simp only [List.setIfInBounds_toArray, List.set_cons_zero, List.set_cons_succ]
  refine hTakeS (i := 2) (k := 26) (v := .pointer (some ⟨b, 0, none⟩)) rfl rfl (by kernel_rfl) (by kernel_rfl) (by kernel_rfl) (fun _ _ _ h => h) (yieldsIf_val (by rfl) (by intro W; go_simp)) h0 ?_
  simp only [List.setIfInBounds_toArray, List.set_cons_zero, List.set_cons_succ]
  refine hTakeS (i := 3) (k := 27) (v := .int .i64 s.dom) rfl rfl (by kernel_rfl) (by kernel_rfl) (by kernel_rfl) (fun _ _ _ h => h) (.inl ⟨by rfl, fun W hW => by have b0 := hW.c0; go_simp⟩) h0 ?_
  simp only [List.setIfInBounds_toArray, List.set_cons_zero, List.set_cons_succ]
  refine hTakeS (i := 4) (k := 28) (v := .int .i64 q) rfl rfl (by kernel_rfl) (by kernel_rfl) (by kernel_rfl) (fun _ _ _ h => h) (yieldsIf_val (by rfl) (by intro W; go_simp)) h0 ?_
  simp only [List.setIfInBounds_toArray, List.set_cons_zero, List.set_cons_succ]
  refine hTakeS (i := 5) (k := 29) (v := .int .i64 sr) rfl rfl (by kernel_rfl) (by kernel_rfl) (by kernel_rfl) (fun _ _ _ h => h) (yieldsIf_val (by rfl) (by intro W; go_simp)) h0 ?_
  simp only [List.setIfInBounds_toArray, List.set_cons_zero, List.set_cons_succ]
  refine hTakeS (i := 6) (k := 30) (v := .int .i64 po) rfl rfl (by kernel_rfl) (by kernel_rfl) (by kernel_rfl) (fun _ _ _ h => h) (yieldsIf_val (by rfl) (by intro W; go_simp)) h0 ?_
  simp only [List.setIfInBounds_toArray, List.set_cons_zero, List.set_cons_succ]
  refine hTakeS (i := 7) (k := 31) (v := .int .i64 y) rfl rfl (by kernel_rfl) (by kernel_rfl) (by kernel_rfl) (fun _ _ _ h => h) (yieldsIf_val (by rfl) (by intro W; go_simp)) h0 ?_
  simp only [List.setIfInBounds_toArray, List.set_cons_zero, List.set_cons_succ]
  refine hTakeS (i := 8) (k := 32) (v := .pointer (some ⟨b, 0, none⟩)) rfl rfl (by kernel_rfl) (by kernel_rfl) (by kernel_rfl) (fun _ _ _ h => h) (yieldsIf_val (by rfl) (by intro W; go_simp)) h0 ?_
  simp only [List.setIfInBounds_toArray, List.set_cons_zero, List.set_cons_succ]
  refine hCallOr (i := 9) (j := 11) (k := 33) (m := 14) (u := .pointer (some ⟨w1.heap.size, 0, none⟩)) (w2 := (w1.drew.alloc (.cells #[.int .i64 0, .int .i64 0, .int .i64 0, .int .i64 0, .int .i64 0, .int .i64 0, .int .i64 0, .int .i64 0, .int .i64 0, .int .i64 0, .int .i64 0, .int .i64 0, .int .i64 0, .int .i64 0, .int .i64 0, .slice none 0 0] 37))) (by kernel_rfl) rfl rfl rfl rfl (by rfl) (by rfl) 48 #[.pointer (some ⟨b, 0, none⟩)] (by go_simp) (HR.out _ h0) (by go_simp) (h0.alloc _) ?_ ?_
  · rintro e W1 ⟨rfl, rfl⟩
    refine ⟨_, rfl, h0, ?_⟩
    simp only [List.setIfInBounds_toArray, List.set_cons_zero, List.set_cons_succ]
    refine hTakeS (i := 10) (k := 34) (v := .agg (MC (FolM s.dom q sr po 0 y 2199023255552) (.slice none 0 0))) rfl rfl (by kernel_rfl) (by kernel_rfl) (by kernel_rfl) (fun _ _ _ h => h) (yieldsIf_val (by rfl) (fun W => build_opG _ _ rfl _ (by simp only [List.map_toArray, List.map_cons, List.map_nil]; exact Try.builtFolO s q sr po y) W)) h0 ?_
    simp only [List.setIfInBounds_toArray, List.set_cons_zero, List.set_cons_succ]
    refine hOneS (i := 11) (k := 14) (v := .pointer (some ⟨w1.heap.size, 0, none⟩)) (w' := (w1.drew.alloc (.cells #[.int .i64 0, .int .i64 0, .int .i64 0, .int .i64 0, .int .i64 0, .int .i64 0, .int .i64 0, .int .i64 0, .int .i64 0, .int .i64 0, .int .i64 0, .int .i64 0, .int .i64 0, .int .i64 0, .int .i64 0, .slice none 0 0] 37))) (by kernel_rfl) rfl rfl (by rfl) (by go_simp) (h0.alloc _) ?_
    simp only [List.setIfInBounds_toArray, List.set_cons_zero, List.set_cons_succ]
    refine hOneNS (i := 12) (w' := (w1.drew.alloc (.cells #[.int .i64 0, .int .i64 0, .int .i64 0, .int .i64 0, .int .i64 0, .int .i64 0, .int .i64 0, .int .i64 0, .int .i64 0, .int .i64 0, .int .i64 0, .int .i64 0, .int .i64 0, .int .i64 0, .int .i64 0, .slice none 0 0] 37)).setRow w1.heap.size (MC (FolM s.dom q sr po 0 y 2199023255552) (.slice none 0 0))) (by kernel_rfl) rfl rfl (by rfl) (store_opG _ _ _ rfl w1.heap.size (MC (FolM s.dom q sr po 0 y 2199023255552) (.slice none 0 0)) rfl rfl _ _ _ (heap_alloc_new w1.drew _) (by kernel_rfl) rfl (MC_one _ _ _ _)) ((h0.alloc _).row (heap_alloc_new w1.drew _)) ?_
    refine wpAnyH_done (by kernel_rfl) ?_ _
    rw [hN]
    have hX : (w1.drew.alloc (.cells (MC (FolM s.dom q sr po 0 y 2199023255552) (.slice none 0 0)) 37)).heap[w1.heap.size]? = some (.cells (MC (FolM s.dom q sr po 0 y 2199023255552) (.slice none 0 0)) 37 (0, 0)) := heap_alloc_new w1.drew (.cells (MC (FolM s.dom q sr po 0 y 2199023255552) (.slice none 0 0)) 37)
    have hZX := (heap_alloc_old w1.drew (.cells (MC (FolM s.dom q sr po 0 y 2199023255552) (.slice none 0 0)) 37) hz1l).trans hz1
    have hBX := bAl (bDr1 hB1) (.cells (MC (FolM s.dom q sr po 0 y 2199023255552) (.slice none 0 0)) 37)
    have hCX := h0.alloc (.cells (MC (FolM s.dom q sr po 0 y 2199023255552) (.slice none 0 0)) 37)
    clear hN
    generalize w1.drew.alloc (.cells (MC (FolM s.dom q sr po 0 y 2199023255552) (.slice none 0 0)) 37) = X at *
    have k1 := hCX.c1
    rw [ho] at k1
    have HX := Lib.hid hX
    have HZX := Lib.hid hZX
    have HBX := Lib.hid hBX
    have HCX := Lib.hid hCX
    clear hX hZX hBX hCX
    go_wp2_with (first
      | ((with_reducible refine at_loadM ?_); refine wpList_loadM rfl _ rfl w1.heap.size rfl (MC (FolM s.dom q sr po 0 y 2199023255552) (.slice none 0 0)) _ HX.out rfl ?_)
      | (go_at_call 55; (refine ((HC.out _).go _ (bRef _)).mono ?_); rintro e w2 ⟨rfl, hb⟩; have HX2 := Lib.hid ((hb.block _ (lt_of_heap HX.out)).trans HX.out); have HZ2 := Lib.hid ((hb.block _ (lt_of_heap HZX.out)).trans HZX.out); have HB2 := Lib.hid (bTr HBX.out hb); clear hb)
      | ((with_reducible refine at_loadM ?_); refine wpList_loadM rfl _ rfl w1.heap.size rfl (MC (FolM s.dom q sr po 0 y 2199023255552) (.slice none 0 0)) _ HX2.out rfl ?_)
      | ((with_reducible refine at_storeM ?_); refine wpList_storeM rfl _ _ rfl w.heap.size (MC (FolM s.dom q sr po 0 y 2199023255552) (.slice none 0 0)) rfl rfl (MC_one _ _ _ _) rfl _ HZ2.out rfl ?_))
    refine bodyM2 rfl w.heap.size (MC (FolM s.dom q sr po 0 y 2199023255552) (.slice none 0 0)) _ rfl rfl (setRow_heap _ _ _ _ _ _ HZ2.out) rfl rfl ?_
    exact ⟨rfl, below_setRow HB2.out (Nat.le_refl _) _⟩
  · simp only [List.setIfInBounds_toArray, List.set_cons_zero, List.set_cons_succ]
    have h2 : (fun V => Ck V b s) (w1.drew.alloc (.cells #[.int .i64 0, .int .i64 0, .int .i64 0, .int .i64 0, .int .i64 0, .int .i64 0, .int .i64 0, .int .i64 0, .int .i64 0, .int .i64 0, .int .i64 0, .int .i64 0, .int .i64 0, .int .i64 0, .int .i64 0, .slice none 0 0] 37)) := h0.alloc _
    refine hCallR (i := 9) (k := 33) (by kernel_rfl) rfl rfl (by rfl) 48 #[.pointer (some ⟨b, 0, none⟩)] (by go_simp) (HR.out _ h2) ?_
    rintro e W1 ⟨rfl, rfl⟩
    refine ⟨_, rfl, h2, ?_⟩
    simp only [List.setIfInBounds_toArray, List.set_cons_zero, List.set_cons_succ]
    refine hTakeS (i := 10) (k := 34) (v := .agg (MC (FolM s.dom q sr po 0 y 2199023255552) (.slice none 0 0))) rfl rfl (by kernel_rfl) (by kernel_rfl) (by kernel_rfl) (fun _ _ _ h => h) (yieldsIf_val (by rfl) (fun W => build_opG _ _ rfl _ (by simp only [List.map_toArray, List.map_cons, List.map_nil]; exact Try.builtFolO s q sr po y) W)) h2 ?_
    simp only [List.setIfInBounds_toArray, List.set_cons_zero, List.set_cons_succ]
    refine hOneNS (i := 12) (w' := (w1.drew.alloc (.cells #[.int .i64 0, .int .i64 0, .int .i64 0, .int .i64 0, .int .i64 0, .int .i64 0, .int .i64 0, .int .i64 0, .int .i64 0, .int .i64 0, .int .i64 0, .int .i64 0, .int .i64 0, .int .i64 0, .int .i64 0, .slice none 0 0] 37)).setRow w1.heap.size (MC (FolM s.dom q sr po 0 y 2199023255552) (.slice none 0 0))) (by kernel_rfl) rfl rfl (by rfl) (store_opG _ _ _ rfl w1.heap.size (MC (FolM s.dom q sr po 0 y 2199023255552) (.slice none 0 0)) rfl rfl _ _ _ (heap_alloc_new w1.drew _) (by kernel_rfl) rfl (MC_one _ _ _ _)) ((h0.alloc _).row (heap_alloc_new w1.drew _)) ?_
    refine wpAnyH_done (by kernel_rfl) ?_ _
    rw [hN]
    have hX : (w1.drew.alloc (.cells (MC (FolM s.dom q sr po 0 y 2199023255552) (.slice none 0 0)) 37)).heap[w1.heap.size]? = some (.cells (MC (FolM s.dom q sr po 0 y 2199023255552) (.slice none 0 0)) 37 (0, 0)) := heap_alloc_new w1.drew (.cells (MC (FolM s.dom q sr po 0 y 2199023255552) (.slice none 0 0)) 37)
    have hZX := (heap_alloc_old w1.drew (.cells (MC (FolM s.dom q sr po 0 y 2199023255552) (.slice none 0 0)) 37) hz1l).trans hz1
    have hBX := bAl (bDr1 hB1) (.cells (MC (FolM s.dom q sr po 0 y 2199023255552) (.slice none 0 0)) 37)
    have hCX := h0.alloc (.cells (MC (FolM s.dom q sr po 0 y 2199023255552) (.slice none 0 0)) 37)
    clear hN
    generalize w1.drew.alloc (.cells (MC (FolM s.dom q sr po 0 y 2199023255552) (.slice none 0 0)) 37) = X at *
    have k1 := hCX.c1
    rw [ho] at k1
    have HX := Lib.hid hX
    have HZX := Lib.hid hZX
    have HBX := Lib.hid hBX
    have HCX := Lib.hid hCX
    clear hX hZX hBX hCX
    go_wp2_with (first
      | ((with_reducible refine at_loadM ?_); refine wpList_loadM rfl _ rfl w1.heap.size rfl (MC (FolM s.dom q sr po 0 y 2199023255552) (.slice none 0 0)) _ HX.out rfl ?_)
      | (go_at_call 55; (refine ((HC.out _).go _ (bRef _)).mono ?_); rintro e w2 ⟨rfl, hb⟩; have HX2 := Lib.hid ((hb.block _ (lt_of_heap HX.out)).trans HX.out); have HZ2 := Lib.hid ((hb.block _ (lt_of_heap HZX.out)).trans HZX.out); have HB2 := Lib.hid (bTr HBX.out hb); clear hb)
      | ((with_reducible refine at_loadM ?_); refine wpList_loadM rfl _ rfl w1.heap.size rfl (MC (FolM s.dom q sr po 0 y 2199023255552) (.slice none 0 0)) _ HX2.out rfl ?_)
      | ((with_reducible refine at_storeM ?_); refine wpList_storeM rfl _ _ rfl w.heap.size (MC (FolM s.dom q sr po 0 y 2199023255552) (.slice none 0 0)) rfl rfl (MC_one _ _ _ _) rfl _ HZ2.out rfl ?_))
    refine bodyM2 rfl w.heap.size (MC (FolM s.dom q sr po 0 y 2199023255552) (.slice none 0 0)) _ rfl rfl (setRow_heap _ _ _ _ _ _ HZ2.out) rfl rfl ?_
    exact ⟨rfl, below_setRow HB2.out (Nat.le_refl _) _⟩
theorem Try.builtFolX (s : CS) (q sr po y : Int) : Try.prog.built 37 [(0, .int .i64 8), (1, .int .i64 s.dom), (2, .int .i64 q), (3, .int .i64 sr), (4, .int .i64 po), (6, .int .i64 y), (9, .int .i64 s.rate)] = some (MC (FolM s.dom q sr po 0 y s.rate) (.slice none 0 0)) := by kernel_rfl
set_option maxRecDepth 20000 in
set_option maxHeartbeats 4000000 in
theorem tell_other (h : Ck w b s) (ho : s.own = false) (q sr po : Int) {x y : Int} (hd : Hd s.dom q sr po) (iy : In64 y) (ir : In64 s.rate) (it : In64 s.there) (ic : In64 (y - s.there))
    (HA : ∀ W, Ck W b s → Calls Try.prog 25 #[.pointer (some ⟨b, 0, none⟩), .int .i64 x] W fun e w' => e = .returned (.tuple #[.int .i64 y, .bool true]) ∧ Below W.heap.size W w') :
    Calls Try.prog 31 #[.pointer (some ⟨b, 0, none⟩), .int .i64 q, .int .i64 sr, .int .i64 po, .int .i64 x] w fun e w' => e = .returned (.tuple #[.agg (MC (FolM s.dom q sr po (y - s.there) s.there s.rate) (.slice none 0 0)), .bool true]) ∧ Below w.heap.size w w' := by
  have hb0 := bAl (bRef w) (.cells #[.int .i64 0, .int .i64 0, .int .i64 0, .int .i64 0, .int .i64 0, .int .i64 0, .int .i64 0, .int .i64 0, .int .i64 0, .int .i64 0, .int .i64 0, .int .i64 0, .int .i64 0, .int .i64 0, .int .i64 0, .slice none 0 0] 37)
  have HAt := Lib.hid (HA _ (h.below hb0))
  have H := Lib.hid (h.below hb0)
  have HZ := Lib.hid (heap_alloc_new w (.cells #[.int .i64 0, .int .i64 0, .int .i64 0, .int .i64 0, .int .i64 0, .int .i64 0, .int .i64 0, .int .i64 0, .int .i64 0, .int .i64 0, .int .i64 0, .int .i64 0, .int .i64 0, .int .i64 0, .int .i64 0, .slice none 0 0] 37))
  have HB0 := Lib.hid hb0
  have hlt := h.lt
  have HR : Hid (∀ W, Ck W b s → Calls Try.prog 48 #[.pointer (some ⟨b, 0, none⟩)] W fun e w' => e = .returned (.int .i64 s.rate) ∧ w' = W) := Lib.hid (fun W h => by
    have key := ratec_any h
    unfold CS.now at key
    rw [ho] at key
    exact key)
  have HC := Lib.hid (fun W => fol_to W hd ic it ir)
  have hw1 : IntKind.i64.wrap (y - s.there) = y - s.there := by
    unfold In64 at ic
    rw [IntKind.wrap_i64]
    omega
  clear h hb0 HA hd iy ir it ic
  go_enter Try.func31, Try.ntmps31
  go_wp2_with (go_at_call 25; (with_reducible refine HAt.out.mono ?_); rintro e w1 ⟨rfl, hb⟩; have h1 := H.out.below hb; have hB1 := bTr HB0.out hb; have hz1 := (hb.block _ (lt_of_heap HZ.out)).trans HZ.out; clear hb)
  have hz1l := lt_of_heap hz1
  have h1l := h1.lt
  have hN : (w1.drew.alloc (.cells #[.int .i64 0, .int .i64 0, .int .i64 0, .int .i64 0, .int .i64 0, .int .i64 0, .int .i64 0, .int .i64 0, .int .i64 0, .int .i64 0, .int .i64 0, .int .i64 0, .int .i64 0, .int .i64 0, .int .i64 0, .slice none 0 0] 37)).setRow w1.heap.size (MC (FolM s.dom q sr po 0 y s.rate) (.slice none 0 0)) = w1.drew.alloc (.cells (MC (FolM s.dom q sr po 0 y s.rate) (.slice none 0 0)) 37) := setRow_newM w1.drew _ _ _ _
  have h0 : (fun V => Ck V b s) w1.drew := h1
  refine wp_region_held_drew (S := fun V => Ck V b s) (by kernel_rfl) h0 (fun h0 => ?_)
  refine hTakeS (i := 0) (k := 24) (v := .pointer (some ⟨b, 0, none⟩)) rfl rfl (by kernel_rfl) (by kernel_rfl) (by kernel_rfl) (fun _ _ _ h => h) (yieldsIf_val (by rfl) (by intro W; go_simp)) h0 ?_
  simp only [List.setIfInBounds_toArray, List.set_cons_zero, List.set_cons_succ]
  refine hTakeS (i := 1) (k := 25) (v := .pointer (some ⟨b, 0, none⟩)) rfl rfl (by kernel_rfl) (by kernel_rfl) (by kernel_rfl) (fun _ _ _ h => h) (yieldsIf_val (by rfl) (by intro W; go_simp)) h0 ?_
  simp only [List.setIfInBounds_toArray, List.set_cons_zero, List.set_cons_succ]
  refine hTakeS (i := 2) (k := 26) (v := .pointer (some ⟨b, 0, none⟩)) rfl rfl (by kernel_rfl) (by kernel_rfl) (by kernel_rfl) (fun _ _ _ h => h) (yieldsIf_val (by rfl) (by intro W; go_simp)) h0 ?_
  simp only [List.setIfInBounds_toArray, List.set_cons_zero, List.set_cons_succ]
  refine hTakeS (i := 3) (k := 27) (v := .int .i64 s.dom) rfl rfl (by kernel_rfl) (by kernel_rfl) (by kernel_rfl) (fun _ _ _ h => h) (.inl ⟨by rfl, fun W hW => by have b0 := hW.c0; go_simp⟩) h0 ?_
  simp only [List.setIfInBounds_toArray, List.set_cons_zero, List.set_cons_succ]
  refine hTakeS (i := 4) (k := 28) (v := .int .i64 q) rfl rfl (by kernel_rfl) (by kernel_rfl) (by kernel_rfl) (fun _ _ _ h => h) (yieldsIf_val (by rfl) (by intro W; go_simp)) h0 ?_
  simp only [List.setIfInBounds_toArray, List.set_cons_zero, List.set_cons_succ]
  refine hTakeS (i := 5) (k := 29) (v := .int .i64 sr) rfl rfl (by kernel_rfl) (by kernel_rfl) (by kernel_rfl) (fun _ _ _ h => h) (yieldsIf_val (by rfl) (by intro W; go_simp)) h0 ?_
  simp only [List.setIfInBounds_toArray, List.set_cons_zero, List.set_cons_succ]
  refine hTakeS (i := 6) (k := 30) (v := .int .i64 po) rfl rfl (by kernel_rfl) (by kernel_rfl) (by kernel_rfl) (fun _ _ _ h => h) (yieldsIf_val (by rfl) (by intro W; go_simp)) h0 ?_
  simp only [List.setIfInBounds_toArray, List.set_cons_zero, List.set_cons_succ]
  refine hTakeS (i := 7) (k := 31) (v := .int .i64 y) rfl rfl (by kernel_rfl) (by kernel_rfl) (by kernel_rfl) (fun _ _ _ h => h) (yieldsIf_val (by rfl) (by intro W; go_simp)) h0 ?_
  simp only [List.setIfInBounds_toArray, List.set_cons_zero, List.set_cons_succ]
  refine hTakeS (i := 8) (k := 32) (v := .pointer (some ⟨b, 0, none⟩)) rfl rfl (by kernel_rfl) (by kernel_rfl) (by kernel_rfl) (fun _ _ _ h => h) (yieldsIf_val (by rfl) (by intro W; go_simp)) h0 ?_
  simp only [List.setIfInBounds_toArray, List.set_cons_zero, List.set_cons_succ]
  refine hCallOr (i := 9) (j := 11) (k := 33) (m := 14) (u := .pointer (some ⟨w1.heap.size, 0, none⟩)) (w2 := (w1.drew.alloc (.cells #[.int .i64 0, .int .i64 0, .int .i64 0, .int .i64 0, .int .i64 0, .int .i64 0, .int .i64 0, .int .i64 0, .int .i64 0, .int .i64 0, .int .i64 0, .int .i64 0, .int .i64 0, .int .i64 0, .int .i64 0, .slice none 0 0] 37))) (by kernel_rfl) rfl rfl rfl rfl (by rfl) (by rfl) 48 #[.pointer (some ⟨b, 0, none⟩)] (by go_simp) (HR.out _ h0) (by go_simp) (h0.alloc _) ?_ ?_
  · rintro e W1 ⟨rfl, rfl⟩
    refine ⟨_, rfl, h0, ?_⟩
    simp only [List.setIfInBounds_toArray, List.set_cons_zero, List.set_cons_succ]
    refine hTakeS (i := 10) (k := 34) (v := .agg (MC (FolM s.dom q sr po 0 y s.rate) (.slice none 0 0))) rfl rfl (by kernel_rfl) (by kernel_rfl) (by kernel_rfl) (fun _ _ _ h => h) (yieldsIf_val (by rfl) (fun W => build_opG _ _ rfl _ (by simp only [List.map_toArray, List.map_cons, List.map_nil]; exact Try.builtFolX s q sr po y) W)) h0 ?_
    simp only [List.setIfInBounds_toArray, List.set_cons_zero, List.set_cons_succ]
    refine hOneS (i := 11) (k := 14) (v := .pointer (some ⟨w1.heap.size, 0, none⟩)) (w' := (w1.drew.alloc (.cells #[.int .i64 0, .int .i64 0, .int .i64 0, .int .i64 0, .int .i64 0, .int .i64 0, .int .i64 0, .int .i64 0, .int .i64 0, .int .i64 0, .int .i64 0, .int .i64 0, .int .i64 0, .int .i64 0, .int .i64 0, .slice none 0 0] 37))) (by kernel_rfl) rfl rfl (by rfl) (by go_simp) (h0.alloc _) ?_
    simp only [List.setIfInBounds_toArray, List.set_cons_zero, List.set_cons_succ]
    refine hOneNS (i := 12) (w' := (w1.drew.alloc (.cells #[.int .i64 0, .int .i64 0, .int .i64 0, .int .i64 0, .int .i64 0, .int .i64 0, .int .i64 0, .int .i64 0, .int .i64 0, .int .i64 0, .int .i64 0, .int .i64 0, .int .i64 0, .int .i64 0, .int .i64 0, .slice none 0 0] 37)).setRow w1.heap.size (MC (FolM s.dom q sr po 0 y s.rate) (.slice none 0 0))) (by kernel_rfl) rfl rfl (by rfl) (store_opG _ _ _ rfl w1.heap.size (MC (FolM s.dom q sr po 0 y s.rate) (.slice none 0 0)) rfl rfl _ _ _ (heap_alloc_new w1.drew _) (by kernel_rfl) rfl (MC_one _ _ _ _)) ((h0.alloc _).row (heap_alloc_new w1.drew _)) ?_
    refine wpAnyH_done (by kernel_rfl) ?_ _
    rw [hN]
    have hX : (w1.drew.alloc (.cells (MC (FolM s.dom q sr po 0 y s.rate) (.slice none 0 0)) 37)).heap[w1.heap.size]? = some (.cells (MC (FolM s.dom q sr po 0 y s.rate) (.slice none 0 0)) 37 (0, 0)) := heap_alloc_new w1.drew (.cells (MC (FolM s.dom q sr po 0 y s.rate) (.slice none 0 0)) 37)
    have hZX := (heap_alloc_old w1.drew (.cells (MC (FolM s.dom q sr po 0 y s.rate) (.slice none 0 0)) 37) hz1l).trans hz1
    have hBX := bAl (bDr1 hB1) (.cells (MC (FolM s.dom q sr po 0 y s.rate) (.slice none 0 0)) 37)
    have hCX := h0.alloc (.cells (MC (FolM s.dom q sr po 0 y s.rate) (.slice none 0 0)) 37)
    clear hN
    generalize w1.drew.alloc (.cells (MC (FolM s.dom q sr po 0 y s.rate) (.slice none 0 0)) 37) = X at *
    have k1 := hCX.c1
    rw [ho] at k1
    have HX0 := Lib.hid hX
    have HZX0 := Lib.hid hZX
    have HBX0 := Lib.hid hBX
    have HCX := Lib.hid hCX
    clear hX hZX hBX hCX
    go_wp2_with fail
    have h6 : (fun V => V.cell? ⟨b, 4, none⟩ = some (.int .i64 s.there)) X.drew := HCX.out.c4
    have n5 := cell_of_row _ _ 5 _ _ _ HX0.out
    have n6 := cell_of_row _ _ 6 _ _ _ HX0.out
    have nf : ∀ i, X.frozen? ⟨w1.heap.size, i, none⟩ = false := fun i => frozen_of_row _ _ _ _ _ HX0.out
    simp only [MC, FolM, List.getElem?_toArray, List.getElem?_cons_zero, List.getElem?_cons_succ] at n5 n6
    have hne : b ≠ w1.heap.size := by omega
    refine wp_region_held_drew (S := fun V => V.cell? ⟨b, 4, none⟩ = some (.int .i64 s.there)) (by kernel_rfl) h6 (fun h0 => ?_)
    refine hTakeS (i := 0) (k := 40) (v := .pointer (some ⟨b, 0, none⟩)) rfl rfl (by kernel_rfl) (by kernel_rfl) (by kernel_rfl) (fun _ _ _ h => h) (yieldsIf_val (by rfl) (by intro W; go_simp)) h0 ?_
    simp only [List.setIfInBounds_toArray, List.set_cons_zero, List.set_cons_succ]
    refine hTakeS (i := 1) (k := 41) (v := .pointer (some ⟨b, 0, none⟩)) rfl rfl (by kernel_rfl) (by kernel_rfl) (by kernel_rfl) (fun _ _ _ h => h) (yieldsIf_val (by rfl) (by intro W; go_simp)) h0 ?_
    simp only [List.setIfInBounds_toArray, List.set_cons_zero, List.set_cons_succ]
    refine hTakeS (i := 2) (k := 42) (v := .pointer (some ⟨b, 4, none⟩)) rfl rfl (by kernel_rfl) (by kernel_rfl) (by kernel_rfl) (fun _ _ _ h => h) (yieldsIf_val (by rfl) (by intro W; go_simp)) h0 ?_
    simp only [List.setIfInBounds_toArray, List.set_cons_zero, List.set_cons_succ]
    refine hTakeS (i := 3) (k := 43) (v := .int .i64 s.there) rfl rfl (by kernel_rfl) (by kernel_rfl) (by kernel_rfl) (fun _ _ _ h => h) (.inl ⟨by rfl, fun W hW => by go_simp⟩) h0 ?_
    simp only [List.setIfInBounds_toArray, List.set_cons_zero, List.set_cons_succ]
    refine hTakeS (i := 4) (k := 44) (v := .int .i64 y) rfl rfl (by kernel_rfl) (by kernel_rfl) (by kernel_rfl) (fun _ _ _ h => h) (yieldsIf_val (by rfl) (by intro W; go_simp)) h0 ?_
    simp only [List.setIfInBounds_toArray, List.set_cons_zero, List.set_cons_succ]
    refine hTakeS (i := 5) (k := 45) (v := .pointer (some ⟨b, 0, none⟩)) rfl rfl (by kernel_rfl) (by kernel_rfl) (by kernel_rfl) (fun _ _ _ h => h) (yieldsIf_val (by rfl) (by intro W; go_simp)) h0 ?_
    simp only [List.setIfInBounds_toArray, List.set_cons_zero, List.set_cons_succ]
    refine hTakeS (i := 6) (k := 46) (v := .pointer (some ⟨b, 0, none⟩)) rfl rfl (by kernel_rfl) (by kernel_rfl) (by kernel_rfl) (fun _ _ _ h => h) (yieldsIf_val (by rfl) (by intro W; go_simp)) h0 ?_
    simp only [List.setIfInBounds_toArray, List.set_cons_zero, List.set_cons_succ]
    refine hTakeS (i := 7) (k := 47) (v := .pointer (some ⟨b, 4, none⟩)) rfl rfl (by kernel_rfl) (by kernel_rfl) (by kernel_rfl) (fun _ _ _ h => h) (yieldsIf_val (by rfl) (by intro W; go_simp)) h0 ?_
    simp only [List.setIfInBounds_toArray, List.set_cons_zero, List.set_cons_succ]
    refine hTakeS (i := 8) (k := 48) (v := .int .i64 s.there) rfl rfl (by kernel_rfl) (by kernel_rfl) (by kernel_rfl) (fun _ _ _ h => h) (.inl ⟨by rfl, fun W hW => by go_simp⟩) h0 ?_
    simp only [List.setIfInBounds_toArray, List.set_cons_zero, List.set_cons_succ]
    refine hTakeS (i := 9) (k := 49) (v := .int .i64 (y - s.there)) rfl rfl (by kernel_rfl) (by kernel_rfl) (by kernel_rfl) (fun _ _ _ h => h) (yieldsIf_val (by rfl) (by intro W; go_simp)) h0 ?_
    simp only [List.setIfInBounds_toArray, List.set_cons_zero, List.set_cons_succ]
    refine hTakeS (i := 10) (k := 50) (v := .pointer (some ⟨w1.heap.size, 6, none⟩)) rfl rfl (by kernel_rfl) (by kernel_rfl) (by kernel_rfl) (fun _ _ _ h => h) (yieldsIf_val (by rfl) (by intro W; go_simp)) h0 ?_
    simp only [List.setIfInBounds_toArray, List.set_cons_zero, List.set_cons_succ]
    have h7 : (fun V => V.cell? ⟨b, 4, none⟩ = some (.int .i64 s.there)) (X.drew.setCell ⟨w1.heap.size, 6, none⟩ (.int .i64 s.there)) := cellO h0 hne
    refine hOneNS (i := 11) (w' := (X.drew.setCell ⟨w1.heap.size, 6, none⟩ (.int .i64 s.there))) (by kernel_rfl) rfl rfl (by rfl) (by go_simp) h7 ?_
    refine hTakeS (i := 12) (k := 51) (v := .pointer (some ⟨w1.heap.size, 5, none⟩)) rfl rfl (by kernel_rfl) (by kernel_rfl) (by kernel_rfl) (fun _ _ _ h => h) (yieldsIf_val (by rfl) (by intro W; go_simp)) h7 ?_
    simp only [List.setIfInBounds_toArray, List.set_cons_zero, List.set_cons_succ]
    have h8 : (fun V => V.cell? ⟨b, 4, none⟩ = some (.int .i64 s.there)) ((X.drew.setCell ⟨w1.heap.size, 6, none⟩ (.int .i64 s.there)).setCell ⟨w1.heap.size, 5, none⟩ (.int .i64 (y - s.there))) := cellO h7 hne
    refine hOneNS (i := 13) (w' := ((X.drew.setCell ⟨w1.heap.size, 6, none⟩ (.int .i64 s.there)).setCell ⟨w1.heap.size, 5, none⟩ (.int .i64 (y - s.there)))) (by kernel_rfl) rfl rfl (by rfl) (by go_simp) h8 ?_
    refine wpAnyH_done (by kernel_rfl) ?_ _
    have HX := Lib.hid (heap_setCell_same _ w1.heap.size 5 _ _ (.int .i64 (y - s.there)) (heap_setCell_same X.drew w1.heap.size 6 _ _ (.int .i64 s.there) HX0.out))
    have HZX := Lib.hid ((heap_setCell_other (X.drew.setCell ⟨w1.heap.size, 6, none⟩ (.int .i64 s.there)) ⟨w1.heap.size, 5, none⟩ w.heap.size (.int .i64 (y - s.there)) (by show w.heap.size ≠ w1.heap.size; omega)).trans ((heap_setCell_other X.drew ⟨w1.heap.size, 6, none⟩ w.heap.size (.int .i64 s.there) (by show w.heap.size ≠ w1.heap.size; omega)).trans HZX0.out))
    have HBX := Lib.hid (bSet (bSet (bDr1 HBX0.out) ⟨w1.heap.size, 6, none⟩ (by show w.heap.size ≤ w1.heap.size; omega) (.int .i64 s.there)) ⟨w1.heap.size, 5, none⟩ (by show w.heap.size ≤ w1.heap.size; omega) (.int .i64 (y - s.there)))
    go_wp2_with (first
      | ((with_reducible refine at_loadM ?_); refine wpList_loadM rfl _ rfl w1.heap.size rfl (MC (FolM s.dom q sr po (y - s.there) s.there s.rate) (.slice none 0 0)) _ HX.out rfl ?_)
      | (go_at_call 55; (refine ((HC.out _).go _ (bRef _)).mono ?_); rintro e w2 ⟨rfl, hb⟩; have HX2 := Lib.hid ((hb.block _ (lt_of_heap HX.out)).trans HX.out); have HZ2 := Lib.hid ((hb.block _ (lt_of_heap HZX.out)).trans HZX.out); have HB2 := Lib.hid (bTr HBX.out hb); clear hb)
      | ((with_reducible refine at_loadM ?_); refine wpList_loadM rfl _ rfl w1.heap.size rfl (MC (FolM s.dom q sr po (y - s.there) s.there s.rate) (.slice none 0 0)) _ HX2.out rfl ?_)
      | ((with_reducible refine at_storeM ?_); refine wpList_storeM rfl _ _ rfl w.heap.size (MC (FolM s.dom q sr po (y - s.there) s.there s.rate) (.slice none 0 0)) rfl rfl (MC_one _ _ _ _) rfl _ HZ2.out rfl ?_))
    refine bodyM2 rfl w.heap.size (MC (FolM s.dom q sr po (y - s.there) s.there s.rate) (.slice none 0 0)) _ rfl rfl (setRow_heap _ _ _ _ _ _ HZ2.out) rfl rfl ?_
    exact ⟨rfl, below_setRow HB2.out (Nat.le_refl _) _⟩
  · simp only [List.setIfInBounds_toArray, List.set_cons_zero, List.set_cons_succ]
    have h2 : (fun V => Ck V b s) (w1.drew.alloc (.cells #[.int .i64 0, .int .i64 0, .int .i64 0, .int .i64 0, .int .i64 0, .int .i64 0, .int .i64 0, .int .i64 0, .int .i64 0, .int .i64 0, .int .i64 0, .int .i64 0, .int .i64 0, .int .i64 0, .int .i64 0, .slice none 0 0] 37)) := h0.alloc _
    refine hCallR (i := 9) (k := 33) (by kernel_rfl) rfl rfl (by rfl) 48 #[.pointer (some ⟨b, 0, none⟩)] (by go_simp) (HR.out _ h2) ?_
    rintro e W1 ⟨rfl, rfl⟩
    refine ⟨_, rfl, h2, ?_⟩
    simp only [List.setIfInBounds_toArray, List.set_cons_zero, List.set_cons_succ]
    refine hTakeS (i := 10) (k := 34) (v := .agg (MC (FolM s.dom q sr po 0 y s.rate) (.slice none 0 0))) rfl rfl (by kernel_rfl) (by kernel_rfl) (by kernel_rfl) (fun _ _ _ h => h) (yieldsIf_val (by rfl) (fun W => build_opG _ _ rfl _ (by simp only [List.map_toArray, List.map_cons, List.map_nil]; exact Try.builtFolX s q sr po y) W)) h2 ?_
    simp only [List.setIfInBounds_toArray, List.set_cons_zero, List.set_cons_succ]
    refine hOneNS (i := 12) (w' := (w1.drew.alloc (.cells #[.int .i64 0, .int .i64 0, .int .i64 0, .int .i64 0, .int .i64 0, .int .i64 0, .int .i64 0, .int .i64 0, .int .i64 0, .int .i64 0, .int .i64 0, .int .i64 0, .int .i64 0, .int .i64 0, .int .i64 0, .slice none 0 0] 37)).setRow w1.heap.size (MC (FolM s.dom q sr po 0 y s.rate) (.slice none 0 0))) (by kernel_rfl) rfl rfl (by rfl) (store_opG _ _ _ rfl w1.heap.size (MC (FolM s.dom q sr po 0 y s.rate) (.slice none 0 0)) rfl rfl _ _ _ (heap_alloc_new w1.drew _) (by kernel_rfl) rfl (MC_one _ _ _ _)) ((h0.alloc _).row (heap_alloc_new w1.drew _)) ?_
    refine wpAnyH_done (by kernel_rfl) ?_ _
    rw [hN]
    have hX : (w1.drew.alloc (.cells (MC (FolM s.dom q sr po 0 y s.rate) (.slice none 0 0)) 37)).heap[w1.heap.size]? = some (.cells (MC (FolM s.dom q sr po 0 y s.rate) (.slice none 0 0)) 37 (0, 0)) := heap_alloc_new w1.drew (.cells (MC (FolM s.dom q sr po 0 y s.rate) (.slice none 0 0)) 37)
    have hZX := (heap_alloc_old w1.drew (.cells (MC (FolM s.dom q sr po 0 y s.rate) (.slice none 0 0)) 37) hz1l).trans hz1
    have hBX := bAl (bDr1 hB1) (.cells (MC (FolM s.dom q sr po 0 y s.rate) (.slice none 0 0)) 37)
    have hCX := h0.alloc (.cells (MC (FolM s.dom q sr po 0 y s.rate) (.slice none 0 0)) 37)
    clear hN
    generalize w1.drew.alloc (.cells (MC (FolM s.dom q sr po 0 y s.rate) (.slice none 0 0)) 37) = X at *
    have k1 := hCX.c1
    rw [ho] at k1
    have HX0 := Lib.hid hX
    have HZX0 := Lib.hid hZX
    have HBX0 := Lib.hid hBX
    have HCX := Lib.hid hCX
    clear hX hZX hBX hCX
    go_wp2_with fail
    have h6 : (fun V => V.cell? ⟨b, 4, none⟩ = some (.int .i64 s.there)) X.drew := HCX.out.c4
    have n5 := cell_of_row _ _ 5 _ _ _ HX0.out
    have n6 := cell_of_row _ _ 6 _ _ _ HX0.out
    have nf : ∀ i, X.frozen? ⟨w1.heap.size, i, none⟩ = false := fun i => frozen_of_row _ _ _ _ _ HX0.out
    simp only [MC, FolM, List.getElem?_toArray, List.getElem?_cons_zero, List.getElem?_cons_succ] at n5 n6
    have hne : b ≠ w1.heap.size := by omega
    refine wp_region_held_drew (S := fun V => V.cell? ⟨b, 4, none⟩ = some (.int .i64 s.there)) (by kernel_rfl) h6 (fun h0 => ?_)
    refine hTakeS (i := 0) (k := 40) (v := .pointer (some ⟨b, 0, none⟩)) rfl rfl (by kernel_rfl) (by kernel_rfl) (by kernel_rfl) (fun _ _ _ h => h) (yieldsIf_val (by rfl) (by intro W; go_simp)) h0 ?_
    simp only [List.setIfInBounds_toArray, List.set_cons_zero, List.set_cons_succ]
    refine hTakeS (i := 1) (k := 41) (v := .pointer (some ⟨b, 0, none⟩)) rfl rfl (by kernel_rfl) (by kernel_rfl) (by kernel_rfl) (fun _ _ _ h => h) (yieldsIf_val (by rfl) (by intro W; go_simp)) h0 ?_
    simp only [List.setIfInBounds_toArray, List.set_cons_zero, List.set_cons_succ]
    refine hTakeS (i := 2) (k := 42) (v := .pointer (some ⟨b, 4, none⟩)) rfl rfl (by kernel_rfl) (by kernel_rfl) (by kernel_rfl) (fun _ _ _ h => h) (yieldsIf_val (by rfl) (by intro W; go_simp)) h0 ?_
    simp only [List.setIfInBounds_toArray, List.set_cons_zero, List.set_cons_succ]
    refine hTakeS (i := 3) (k := 43) (v := .int .i64 s.there) rfl rfl (by kernel_rfl) (by kernel_rfl) (by kernel_rfl) (fun _ _ _ h => h) (.inl ⟨by rfl, fun W hW => by go_simp⟩) h0 ?_
    simp only [List.setIfInBounds_toArray, List.set_cons_zero, List.set_cons_succ]
    refine hTakeS (i := 4) (k := 44) (v := .int .i64 y) rfl rfl (by kernel_rfl) (by kernel_rfl) (by kernel_rfl) (fun _ _ _ h => h) (yieldsIf_val (by rfl) (by intro W; go_simp)) h0 ?_
    simp only [List.setIfInBounds_toArray, List.set_cons_zero, List.set_cons_succ]
    refine hTakeS (i := 5) (k := 45) (v := .pointer (some ⟨b, 0, none⟩)) rfl rfl (by kernel_rfl) (by kernel_rfl) (by kernel_rfl) (fun _ _ _ h => h) (yieldsIf_val (by rfl) (by intro W; go_simp)) h0 ?_
    simp only [List.setIfInBounds_toArray, List.set_cons_zero, List.set_cons_succ]
    refine hTakeS (i := 6) (k := 46) (v := .pointer (some ⟨b, 0, none⟩)) rfl rfl (by kernel_rfl) (by kernel_rfl) (by kernel_rfl) (fun _ _ _ h => h) (yieldsIf_val (by rfl) (by intro W; go_simp)) h0 ?_
    simp only [List.setIfInBounds_toArray, List.set_cons_zero, List.set_cons_succ]
    refine hTakeS (i := 7) (k := 47) (v := .pointer (some ⟨b, 4, none⟩)) rfl rfl (by kernel_rfl) (by kernel_rfl) (by kernel_rfl) (fun _ _ _ h => h) (yieldsIf_val (by rfl) (by intro W; go_simp)) h0 ?_
    simp only [List.setIfInBounds_toArray, List.set_cons_zero, List.set_cons_succ]
    refine hTakeS (i := 8) (k := 48) (v := .int .i64 s.there) rfl rfl (by kernel_rfl) (by kernel_rfl) (by kernel_rfl) (fun _ _ _ h => h) (.inl ⟨by rfl, fun W hW => by go_simp⟩) h0 ?_
    simp only [List.setIfInBounds_toArray, List.set_cons_zero, List.set_cons_succ]
    refine hTakeS (i := 9) (k := 49) (v := .int .i64 (y - s.there)) rfl rfl (by kernel_rfl) (by kernel_rfl) (by kernel_rfl) (fun _ _ _ h => h) (yieldsIf_val (by rfl) (by intro W; go_simp)) h0 ?_
    simp only [List.setIfInBounds_toArray, List.set_cons_zero, List.set_cons_succ]
    refine hTakeS (i := 10) (k := 50) (v := .pointer (some ⟨w1.heap.size, 6, none⟩)) rfl rfl (by kernel_rfl) (by kernel_rfl) (by kernel_rfl) (fun _ _ _ h => h) (yieldsIf_val (by rfl) (by intro W; go_simp)) h0 ?_
    simp only [List.setIfInBounds_toArray, List.set_cons_zero, List.set_cons_succ]
    have h7 : (fun V => V.cell? ⟨b, 4, none⟩ = some (.int .i64 s.there)) (X.drew.setCell ⟨w1.heap.size, 6, none⟩ (.int .i64 s.there)) := cellO h0 hne
    refine hOneNS (i := 11) (w' := (X.drew.setCell ⟨w1.heap.size, 6, none⟩ (.int .i64 s.there))) (by kernel_rfl) rfl rfl (by rfl) (by go_simp) h7 ?_
    refine hTakeS (i := 12) (k := 51) (v := .pointer (some ⟨w1.heap.size, 5, none⟩)) rfl rfl (by kernel_rfl) (by kernel_rfl) (by kernel_rfl) (fun _ _ _ h => h) (yieldsIf_val (by rfl) (by intro W; go_simp)) h7 ?_
    simp only [List.setIfInBounds_toArray, List.set_cons_zero, List.set_cons_succ]
    have h8 : (fun V => V.cell? ⟨b, 4, none⟩ = some (.int .i64 s.there)) ((X.drew.setCell ⟨w1.heap.size, 6, none⟩ (.int .i64 s.there)).setCell ⟨w1.heap.size, 5, none⟩ (.int .i64 (y - s.there))) := cellO h7 hne
    refine hOneNS (i := 13) (w' := ((X.drew.setCell ⟨w1.heap.size, 6, none⟩ (.int .i64 s.there)).setCell ⟨w1.heap.size, 5, none⟩ (.int .i64 (y - s.there)))) (by kernel_rfl) rfl rfl (by rfl) (by go_simp) h8 ?_
    refine wpAnyH_done (by kernel_rfl) ?_ _
    have HX := Lib.hid (heap_setCell_same _ w1.heap.size 5 _ _ (.int .i64 (y - s.there)) (heap_setCell_same X.drew w1.heap.size 6 _ _ (.int .i64 s.there) HX0.out))
    have HZX := Lib.hid ((heap_setCell_other (X.drew.setCell ⟨w1.heap.size, 6, none⟩ (.int .i64 s.there)) ⟨w1.heap.size, 5, none⟩ w.heap.size (.int .i64 (y - s.there)) (by show w.heap.size ≠ w1.heap.size; omega)).trans ((heap_setCell_other X.drew ⟨w1.heap.size, 6, none⟩ w.heap.size (.int .i64 s.there) (by show w.heap.size ≠ w1.heap.size; omega)).trans HZX0.out))
    have HBX := Lib.hid (bSet (bSet (bDr1 HBX0.out) ⟨w1.heap.size, 6, none⟩ (by show w.heap.size ≤ w1.heap.size; omega) (.int .i64 s.there)) ⟨w1.heap.size, 5, none⟩ (by show w.heap.size ≤ w1.heap.size; omega) (.int .i64 (y - s.there)))
    go_wp2_with (first
      | ((with_reducible refine at_loadM ?_); refine wpList_loadM rfl _ rfl w1.heap.size rfl (MC (FolM s.dom q sr po (y - s.there) s.there s.rate) (.slice none 0 0)) _ HX.out rfl ?_)
      | (go_at_call 55; (refine ((HC.out _).go _ (bRef _)).mono ?_); rintro e w2 ⟨rfl, hb⟩; have HX2 := Lib.hid ((hb.block _ (lt_of_heap HX.out)).trans HX.out); have HZ2 := Lib.hid ((hb.block _ (lt_of_heap HZX.out)).trans HZX.out); have HB2 := Lib.hid (bTr HBX.out hb); clear hb)
      | ((with_reducible refine at_loadM ?_); refine wpList_loadM rfl _ rfl w1.heap.size rfl (MC (FolM s.dom q sr po (y - s.there) s.there s.rate) (.slice none 0 0)) _ HX2.out rfl ?_)
      | ((with_reducible refine at_storeM ?_); refine wpList_storeM rfl _ _ rfl w.heap.size (MC (FolM s.dom q sr po (y - s.there) s.there s.rate) (.slice none 0 0)) rfl rfl (MC_one _ _ _ _) rfl _ HZ2.out rfl ?_))
    refine bodyM2 rfl w.heap.size (MC (FolM s.dom q sr po (y - s.there) s.there s.rate) (.slice none 0 0)) _ rfl rfl (setRow_heap _ _ _ _ _ _ HZ2.out) rfl rfl ?_
    exact ⟨rfl, below_setRow HB2.out (Nat.le_refl _) _⟩
end

end Go.Proofs.Ytfeoppbincldfaa
