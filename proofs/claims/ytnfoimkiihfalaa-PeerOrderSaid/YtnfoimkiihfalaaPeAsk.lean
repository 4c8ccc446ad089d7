/- Package peer: Ask. -/
import Derived.Test.YtnfoimkiihfalaaPeOps
import Derived.Test.YtnfoimkiihfalaaPeMW
namespace Go.Proofs.Ytnfoimkiihfalaa
open Go.RowKit Go.Joins

section
variable {w W : World} {b g : Nat} {s : PS} {v : Value}
theorem PrI.row (h : PrI W b s v) {cs old : Array Value} {fr : Nat × Nat} (hg : W.heap[g]? = some (.cells old 30 fr)) : PrI (W.setRow g cs) b s v := by
  have k1 : ∀ (k : Nat) (c : Array Value) (t : TypeId) (f : Nat × Nat), W.heap[k]? = some (Obj.cells c t f) → t ≠ 30 → (W.setRow g cs).heap[k]? = W.heap[k]? := fun k c t f hk ht => setRow_off W g k cs (fun e => by
    subst e
    rw [hg] at hk
    injection hk with hk
    injection hk with _ hk
    exact ht hk.symm)
  exact ⟨(k1 b _ _ _ h.box (by decide)).trans h.box, h.mks.keep fun k c f hk => k1 k c _ f hk (by decide)⟩
theorem PrI.drew (h : PrI W b s v) : PrI W.drew b s v := ⟨h.box, h.mks⟩
theorem ButB.row (h : ButB b w W) (hg : w.heap.size ≤ g) (cs : Array Value) : ButB b w (W.setRow g cs) :=
  ⟨h.os, h.tape, h.output, by rw [setRow_siz]; exact h.size, fun k hk hn => (setRow_off W g k cs (by omega)).trans (h.block k hk hn)⟩
end
/-- A question. -/
def ReqC (q id port : Int) : Array Value := #[.int .i64 2, .int .i64 0, .int .i64 q, .int .i64 id, .int .i64 port, .int .i64 0, .int .i64 0, .int .i64 0, .int .i64 0, .int .i64 0, .int .i64 0, .int .i64 0, .int .i64 0, .int .i64 0, .int .i64 0, .slice none 0 0]
theorem Try.builtReq (q id port : Int) : Try.prog.built 30 [(0, .int .i64 2), (2, .int .i64 q), (3, .int .i64 id), (4, .int .i64 port)] = some (ReqC q id port) := by kernel_rfl
set_option maxRecDepth 20000 in
set_option maxHeartbeats 1000000 in
theorem ask_closed {w : World} {b : Nat} {s : PS} (h : Pr w b s) (hs : s.stage = 0) (q0 : 0 ≤ s.seq) (q1 : s.seq ≤ 65535) : Calls Try.prog 18 #[.pointer (some ⟨b, 0, none⟩)] w fun e w' => e = .returned (.tuple #[.agg (ReqC ((s.seq + 1) % 65536) s.id s.port), .bool true]) ∧ Leave b w s.ask w' := by
  have hask : s.ask = { s with seq := (s.seq + 1) % 65536, stage := 1 } := by unfold PS.ask; rw [if_pos hs]
  rw [hask]
  clear hask
  obtain ⟨v, h⟩ := h
  have hw : wrap64 (s.seq + 1) = s.seq + 1 := by unfold wrap64; omega
  obtain ⟨q, hq⟩ : ∃ q, (s.seq + 1) % 65536 = q := ⟨_, rfl⟩
  have hm : (s.seq + 1).tmod 65536 = q := by rw [Int.tmod_eq_emod_of_nonneg (by omega), hq]
  have hwq : wrap64 q = q := by unfold wrap64; omega
  rw [hq]
  have h1 := h.set 6 (.int .i64 q) (s' := { s with seq := q }) rfl h.mks
  have h2 := h1.set 7 (.int .i64 1) (s' := { s with seq := q, stage := 1 }) rfl h1.mks
  have HR := h2.below (bAl (bRef _) (.cells #[.int .i64 0, .int .i64 0, .int .i64 0, .int .i64 0, .int .i64 0, .int .i64 0, .int .i64 0, .int .i64 0, .int .i64 0, .int .i64 0, .int .i64 0, .int .i64 0, .int .i64 0, .int .i64 0, .int .i64 0, .slice none 0 0] 30))
  have HB := (set_but (set_but (ButB.refl b w) 6 (.int .i64 q)) 7 (.int .i64 1)).trans (ButB.of_below (b := b) (bAl (bRef _) (.cells #[.int .i64 0, .int .i64 0, .int .i64 0, .int .i64 0, .int .i64 0, .int .i64 0, .int .i64 0, .int .i64 0, .int .i64 0, .int .i64 0, .int .i64 0, .int .i64 0, .int .i64 0, .int .i64 0, .int .i64 0, .slice none 0 0] 30)))
  have HZ := heap_alloc_new ((w.setCell ⟨b, 6, none⟩ (.int .i64 q)).setCell ⟨b, 7, none⟩ (.int .i64 1)) (.cells #[.int .i64 0, .int .i64 0, .int .i64 0, .int .i64 0, .int .i64 0, .int .i64 0, .int .i64 0, .int .i64 0, .int .i64 0, .int .i64 0, .int .i64 0, .int .i64 0, .int .i64 0, .int .i64 0, .int .i64 0, .slice none 0 0] 30)
  have hsz : ((w.setCell ⟨b, 6, none⟩ (.int .i64 q)).setCell ⟨b, 7, none⟩ (.int .i64 1)).heap.size = w.heap.size := by simp
  rw [hsz] at HZ
  replace HR := Lib.hid HR
  replace HB := Lib.hid HB
  replace HZ := Lib.hid HZ
  have c6 := h.c6
  have c7 := h.c7
  have fz := h.fz
  rw [hs] at c7
  have hlt := h.lt
  clear h h1 h2 q0 q1 hq hsz hs
  go_enter Try.func18, Try.ntmps18
  go_wp2_with fail
  generalize ((w.setCell ⟨b, 6, none⟩ (.int .i64 q)).setCell ⟨b, 7, none⟩ (.int .i64 1)).alloc (.cells #[.int .i64 0, .int .i64 0, .int .i64 0, .int .i64 0, .int .i64 0, .int .i64 0, .int .i64 0, .int .i64 0, .int .i64 0, .int .i64 0, .int .i64 0, .int .i64 0, .int .i64 0, .int .i64 0, .int .i64 0, .slice none 0 0] 30) = W at *
  have h0 : (fun V : World => V.cell? ⟨b, 0, none⟩ = some (.int .i64 s.id) ∧ V.cell? ⟨b, 1, none⟩ = some (.int .i64 s.port) ∧ V.cell? ⟨b, 6, none⟩ = some (.int .i64 q)) W.drew := ⟨HR.out.drew.c0, HR.out.drew.c1, HR.out.drew.c6⟩
  refine wp_region_held_drew (S := fun V => V.cell? ⟨b, 0, none⟩ = some (.int .i64 s.id) ∧ V.cell? ⟨b, 1, none⟩ = some (.int .i64 s.port) ∧ V.cell? ⟨b, 6, none⟩ = some (.int .i64 q)) (by kernel_rfl) h0 (fun h0 => ?_)
  refine hTakeS (i := 0) (k := 26) (v := .pointer (some ⟨b, 0, none⟩)) rfl rfl (by kernel_rfl) (by kernel_rfl) (by kernel_rfl) (fun _ _ _ h => h) (yieldsIf_val (by rfl) (by intro W; go_simp)) h0 ?_
  simp only [List.setIfInBounds_toArray, List.set_cons_zero, List.set_cons_succ]
  refine hTakeS (i := 1) (k := 27) (v := .pointer (some ⟨b, 0, none⟩)) rfl rfl (by kernel_rfl) (by kernel_rfl) (by kernel_rfl) (fun _ _ _ h => h) (yieldsIf_val (by rfl) (by intro W; go_simp)) h0 ?_
  simp only [List.setIfInBounds_toArray, List.set_cons_zero, List.set_cons_succ]
  refine hTakeS (i := 2) (k := 28) (v := .pointer (some ⟨b, 6, none⟩)) rfl rfl (by kernel_rfl) (by kernel_rfl) (by kernel_rfl) (fun _ _ _ h => h) (yieldsIf_val (by rfl) (by intro W; go_simp)) h0 ?_
  simp only [List.setIfInBounds_toArray, List.set_cons_zero, List.set_cons_succ]
  refine hTakeS (i := 3) (k := 29) (v := .int .i64 q) rfl rfl (by kernel_rfl) (by kernel_rfl) (by kernel_rfl) (fun _ _ _ h => h) (.inl ⟨by rfl, fun W hW => by obtain ⟨b0, b1, b2⟩ := hW; go_simp⟩) h0 ?_
  simp only [List.setIfInBounds_toArray, List.set_cons_zero, List.set_cons_succ]
  refine hTakeS (i := 4) (k := 30) (v := .pointer (some ⟨b, 0, none⟩)) rfl rfl (by kernel_rfl) (by kernel_rfl) (by kernel_rfl) (fun _ _ _ h => h) (yieldsIf_val (by rfl) (by intro W; go_simp)) h0 ?_
  simp only [List.setIfInBounds_toArray, List.set_cons_zero, List.set_cons_succ]
  refine hTakeS (i := 5) (k := 31) (v := .pointer (some ⟨b, 0, none⟩)) rfl rfl (by kernel_rfl) (by kernel_rfl) (by kernel_rfl) (fun _ _ _ h => h) (yieldsIf_val (by rfl) (by intro W; go_simp)) h0 ?_
  simp only [List.setIfInBounds_toArray, List.set_cons_zero, List.set_cons_succ]
  refine hTakeS (i := 6) (k := 32) (v := .pointer (some ⟨b, 0, none⟩)) rfl rfl (by kernel_rfl) (by kernel_rfl) (by kernel_rfl) (fun _ _ _ h => h) (yieldsIf_val (by rfl) (by intro W; go_simp)) h0 ?_
  simp only [List.setIfInBounds_toArray, List.set_cons_zero, List.set_cons_succ]
  refine hTakeS (i := 7) (k := 33) (v := .pointer (some ⟨b, 0, none⟩)) rfl rfl (by kernel_rfl) (by kernel_rfl) (by kernel_rfl) (fun _ _ _ h => h) (yieldsIf_val (by rfl) (by intro W; go_simp)) h0 ?_
  simp only [List.setIfInBounds_toArray, List.set_cons_zero, List.set_cons_succ]
  refine hTakeS (i := 8) (k := 34) (v := .int .i64 s.id) rfl rfl (by kernel_rfl) (by kernel_rfl) (by kernel_rfl) (fun _ _ _ h => h) (.inl ⟨by rfl, fun W hW => by obtain ⟨b0, b1, b2⟩ := hW; go_simp⟩) h0 ?_
  simp only [List.setIfInBounds_toArray, List.set_cons_zero, List.set_cons_succ]
  refine hTakeS (i := 9) (k := 35) (v := .pointer (some ⟨b, 0, none⟩)) rfl rfl (by kernel_rfl) (by kernel_rfl) (by kernel_rfl) (fun _ _ _ h => h) (yieldsIf_val (by rfl) (by intro W; go_simp)) h0 ?_
  simp only [List.setIfInBounds_toArray, List.set_cons_zero, List.set_cons_succ]
  refine hTakeS (i := 10) (k := 36) (v := .pointer (some ⟨b, 0, none⟩)) rfl rfl (by kernel_rfl) (by kernel_rfl) (by kernel_rfl) (fun _ _ _ h => h) (yieldsIf_val (by rfl) (by intro W; go_simp)) h0 ?_
  simp only [List.setIfInBounds_toArray, List.set_cons_zero, List.set_cons_succ]
  refine hTakeS (i := 11) (k := 37) (v := .pointer (some ⟨b, 0, none⟩)) rfl rfl (by kernel_rfl) (by kernel_rfl) (by kernel_rfl) (fun _ _ _ h => h) (yieldsIf_val (by rfl) (by intro W; go_simp)) h0 ?_
  simp only [List.setIfInBounds_toArray, List.set_cons_zero, List.set_cons_succ]
  refine hTakeS (i := 12) (k := 38) (v := .pointer (some ⟨b, 1, none⟩)) rfl rfl (by kernel_rfl) (by kernel_rfl) (by kernel_rfl) (fun _ _ _ h => h) (yieldsIf_val (by rfl) (by intro W; go_simp)) h0 ?_
  simp only [List.setIfInBounds_toArray, List.set_cons_zero, List.set_cons_succ]
  refine hTakeS (i := 13) (k := 39) (v := .int .i64 s.port) rfl rfl (by kernel_rfl) (by kernel_rfl) (by kernel_rfl) (fun _ _ _ h => h) (.inl ⟨by rfl, fun W hW => by obtain ⟨b0, b1, b2⟩ := hW; go_simp⟩) h0 ?_
  simp only [List.setIfInBounds_toArray, List.set_cons_zero, List.set_cons_succ]
  refine hTakeS (i := 14) (k := 40) (v := .agg (ReqC q s.id s.port)) rfl rfl (by kernel_rfl) (by kernel_rfl) (by kernel_rfl) (fun _ _ _ h => h) (yieldsIf_val (by rfl) (fun W => build_opG _ _ rfl _ (by simp only [List.map_toArray, List.map_cons, List.map_nil]; exact Try.builtReq q s.id s.port) W)) h0 ?_
  simp only [List.setIfInBounds_toArray, List.set_cons_zero, List.set_cons_succ]
  have hx := HR.out.drew.row (g := w.heap.size) (cs := (ReqC q s.id s.port)) HZ.out
  refine hOneNS (i := 15) (w' := (W.drew.setRow w.heap.size (ReqC q s.id s.port))) (by kernel_rfl) rfl rfl (by rfl) (store_opG _ _ _ rfl w.heap.size (ReqC q s.id s.port) rfl rfl _ _ _ HZ.out (by kernel_rfl) rfl (by simp [ReqC, Value.oneCell'])) ⟨hx.c0, hx.c1, hx.c6⟩ ?_
  refine hOneS (i := 16) (k := 3) (v := .bool true) (by kernel_rfl) rfl rfl (by rfl) (by go_simp) ⟨hx.c0, hx.c1, hx.c6⟩ ?_
  simp only [List.setIfInBounds_toArray, List.set_cons_zero, List.set_cons_succ]
  refine wpAnyH_done (by kernel_rfl) ?_ _
  go_wp2_with fail
  refine bodyM2 rfl w.heap.size (ReqC q s.id s.port) _ rfl rfl (setRow_heap _ _ _ _ _ _ HZ.out) rfl rfl ?_
  exact ⟨rfl, ⟨_, hx⟩, HB.out.drew.row (Nat.le_refl _) _⟩
set_option maxRecDepth 20000 in
set_option maxHeartbeats 1000000 in
theorem ask_open {w : World} {b : Nat} {s : PS} (h : Pr w b s) (hs : s.stage ≠ 0) (q0 : 0 ≤ s.seq) (q1 : s.seq ≤ 65535) (f0 : 0 ≤ s.failed) (f1 : s.failed ≤ 4611686018427387904) : Calls Try.prog 18 #[.pointer (some ⟨b, 0, none⟩)] w fun e w' => e = .returned (.tuple #[.agg (ReqC ((s.seq + 1) % 65536) s.id s.port), .bool true]) ∧ Leave b w s.ask w' := by
  have hask : s.ask = { s.fail with seq := (s.seq + 1) % 65536, stage := 1 } := by unfold PS.ask; rw [if_neg hs]
  have hseq : s.fail.seq = s.seq := by unfold PS.fail; split <;> rfl
  have hid : s.fail.id = s.id := by unfold PS.fail; split <;> rfl
  have hport : s.fail.port = s.port := by unfold PS.fail; split <;> rfl
  rw [hask, ← hseq, ← hid, ← hport]
  rw [← hseq] at q0 q1
  clear hask hseq hid hport
  have c7 : w.cell? ⟨b, 7, none⟩ = some (.int .i64 s.stage) := by obtain ⟨v, h⟩ := h; exact h.c7
  have HF := Lib.hid (fail_any (h.below (bAl (bRef w) (.cells #[.int .i64 0, .int .i64 0, .int .i64 0, .int .i64 0, .int .i64 0, .int .i64 0, .int .i64 0, .int .i64 0, .int .i64 0, .int .i64 0, .int .i64 0, .int .i64 0, .int .i64 0, .int .i64 0, .int .i64 0, .slice none 0 0] 30))) f0 f1)
  have hlt := h.lt
  have d7 : (s.stage != 0) = true := by rw [bne_iff_ne]; exact hs
  generalize s.fail = s1 at *
  have hw : wrap64 (s1.seq + 1) = s1.seq + 1 := by unfold wrap64; omega
  obtain ⟨q, hq⟩ : ∃ q, (s1.seq + 1) % 65536 = q := ⟨_, rfl⟩
  have hm : (s1.seq + 1).tmod 65536 = q := by rw [Int.tmod_eq_emod_of_nonneg (by omega), hq]
  have hwq : wrap64 q = q := by unfold wrap64; omega
  rw [hq]
  clear h f0 f1 hs hq q0 q1
  go_enter Try.func18, Try.ntmps18
  go_wp2_with (go_at_call 45; (with_reducible refine HF.out.mono ?_); go_loud ((rintro e w1 ⟨rfl, hp, hb⟩; obtain ⟨v, h⟩ := hp; have h1 := h.set 6 (.int .i64 q) (s' := { s1 with seq := q }) rfl h.mks; have HR := Lib.hid (h1.set 7 (.int .i64 1) (s' := { s1 with seq := q, stage := 1 }) rfl h1.mks); have HB := Lib.hid (set_but (set_but ((ButB.of_below (b := b) (bAl (bRef w) (.cells #[.int .i64 0, .int .i64 0, .int .i64 0, .int .i64 0, .int .i64 0, .int .i64 0, .int .i64 0, .int .i64 0, .int .i64 0, .int .i64 0, .int .i64 0, .int .i64 0, .int .i64 0, .int .i64 0, .int .i64 0, .slice none 0 0] 30))).trans hb) 6 (.int .i64 q)) 7 (.int .i64 1)); have HZ := Lib.hid (show w1.heap[w.heap.size]? = some (.cells #[.int .i64 0, .int .i64 0, .int .i64 0, .int .i64 0, .int .i64 0, .int .i64 0, .int .i64 0, .int .i64 0, .int .i64 0, .int .i64 0, .int .i64 0, .int .i64 0, .int .i64 0, .int .i64 0, .int .i64 0, .slice none 0 0] 30 (0, 0)) from (hb.block w.heap.size (by simp) (by omega)).trans (heap_alloc_new w _)); have HZ2 := Lib.hid (show ((w1.setCell ⟨b, 6, none⟩ (.int .i64 q)).setCell ⟨b, 7, none⟩ (.int .i64 1)).heap[w.heap.size]? = some (.cells #[.int .i64 0, .int .i64 0, .int .i64 0, .int .i64 0, .int .i64 0, .int .i64 0, .int .i64 0, .int .i64 0, .int .i64 0, .int .i64 0, .int .i64 0, .int .i64 0, .int .i64 0, .int .i64 0, .int .i64 0, .slice none 0 0] 30 (0, 0)) from (by rw [heap_setCell_other _ ⟨b, 7, none⟩ w.heap.size _ (by show w.heap.size ≠ b; omega), heap_setCell_other _ ⟨b, 6, none⟩ w.heap.size _ (by show w.heap.size ≠ b; omega)]; exact HZ.out)); have c6 := h.c6; have c7 := h.c7; have fz := h.fz; clear h h1 hb)))
  generalize (w1.setCell ⟨b, 6, none⟩ (.int .i64 q)).setCell ⟨b, 7, none⟩ (.int .i64 1) = W at *
  clear HZ
  have HZ := HZ2
  have h0 : (fun V : World => V.cell? ⟨b, 0, none⟩ = some (.int .i64 s1.id) ∧ V.cell? ⟨b, 1, none⟩ = some (.int .i64 s1.port) ∧ V.cell? ⟨b, 6, none⟩ = some (.int .i64 q)) W.drew := ⟨HR.out.drew.c0, HR.out.drew.c1, HR.out.drew.c6⟩
  refine wp_region_held_drew (S := fun V => V.cell? ⟨b, 0, none⟩ = some (.int .i64 s1.id) ∧ V.cell? ⟨b, 1, none⟩ = some (.int .i64 s1.port) ∧ V.cell? ⟨b, 6, none⟩ = some (.int .i64 q)) (by kernel_rfl) h0 (fun h0 => ?_)
  refine hTakeS (i := 0) (k := 26) (v := .pointer (some ⟨b, 0, none⟩)) rfl rfl (by kernel_rfl) (by kernel_rfl) (by kernel_rfl) (fun _ _ _ h => h) (yieldsIf_val (by rfl) (by intro W; go_simp)) h0 ?_
  simp only [List.setIfInBounds_toArray, List.set_cons_zero, List.set_cons_succ]
  refine hTakeS (i := 1) (k := 27) (v := .pointer (some ⟨b, 0, none⟩)) rfl rfl (by kernel_rfl) (by kernel_rfl) (by kernel_rfl) (fun _ _ _ h => h) (yieldsIf_val (by rfl) (by intro W; go_simp)) h0 ?_
  simp only [List.setIfInBounds_toArray, List.set_cons_zero, List.set_cons_succ]
  refine hTakeS (i := 2) (k := 28) (v := .pointer (some ⟨b, 6, none⟩)) rfl rfl (by kernel_rfl) (by kernel_rfl) (by kernel_rfl) (fun _ _ _ h => h) (yieldsIf_val (by rfl) (by intro W; go_simp)) h0 ?_
  simp only [List.setIfInBounds_toArray, List.set_cons_zero, List.set_cons_succ]
  refine hTakeS (i := 3) (k := 29) (v := .int .i64 q) rfl rfl (by kernel_rfl) (by kernel_rfl) (by kernel_rfl) (fun _ _ _ h => h) (.inl ⟨by rfl, fun W hW => by obtain ⟨b0, b1, b2⟩ := hW; go_simp⟩) h0 ?_
  simp only [List.setIfInBounds_toArray, List.set_cons_zero, List.set_cons_succ]
  refine hTakeS (i := 4) (k := 30) (v := .pointer (some ⟨b, 0, none⟩)) rfl rfl (by kernel_rfl) (by kernel_rfl) (by kernel_rfl) (fun _ _ _ h => h) (yieldsIf_val (by rfl) (by intro W; go_simp)) h0 ?_
  simp only [List.setIfInBounds_toArray, List.set_cons_zero, List.set_cons_succ]
  refine hTakeS (i := 5) (k := 31) (v := .pointer (some ⟨b, 0, none⟩)) rfl rfl (by kernel_rfl) (by kernel_rfl) (by kernel_rfl) (fun _ _ _ h => h) (yieldsIf_val (by rfl) (by intro W; go_simp)) h0 ?_
  simp only [List.setIfInBounds_toArray, List.set_cons_zero, List.set_cons_succ]
  refine hTakeS (i := 6) (k := 32) (v := .pointer (some ⟨b, 0, none⟩)) rfl rfl (by kernel_rfl) (by kernel_rfl) (by kernel_rfl) (fun _ _ _ h => h) (yieldsIf_val (by rfl) (by intro W; go_simp)) h0 ?_
  simp only [List.setIfInBounds_toArray, List.set_cons_zero, List.set_cons_succ]
  refine hTakeS (i := 7) (k := 33) (v := .pointer (some ⟨b, 0, none⟩)) rfl rfl (by kernel_rfl) (by kernel_rfl) (by kernel_rfl) (fun _ _ _ h => h) (yieldsIf_val (by rfl) (by intro W; go_simp)) h0 ?_
  simp only [List.setIfInBounds_toArray, List.set_cons_zero, List.set_cons_succ]
  refine hTakeS (i := 8) (k := 34) (v := .int .i64 s1.id) rfl rfl (by kernel_rfl) (by kernel_rfl) (by kernel_rfl) (fun _ _ _ h => h) (.inl ⟨by rfl, fun W hW => by obtain ⟨b0, b1, b2⟩ := hW; go_simp⟩) h0 ?_
  simp only [List.setIfInBounds_toArray, List.set_cons_zero, List.set_cons_succ]
  refine hTakeS (i := 9) (k := 35) (v := .pointer (some ⟨b, 0, none⟩)) rfl rfl (by kernel_rfl) (by kernel_rfl) (by kernel_rfl) (fun _ _ _ h => h) (yieldsIf_val (by rfl) (by intro W; go_simp)) h0 ?_
  simp only [List.setIfInBounds_toArray, List.set_cons_zero, List.set_cons_succ]
  refine hTakeS (i := 10) (k := 36) (v := .pointer (some ⟨b, 0, none⟩)) rfl rfl (by kernel_rfl) (by kernel_rfl) (by kernel_rfl) (fun _ _ _ h => h) (yieldsIf_val (by rfl) (by intro W; go_simp)) h0 ?_
  simp only [List.setIfInBounds_toArray, List.set_cons_zero, List.set_cons_succ]
  refine hTakeS (i := 11) (k := 37) (v := .pointer (some ⟨b, 0, none⟩)) rfl rfl (by kernel_rfl) (by kernel_rfl) (by kernel_rfl) (fun _ _ _ h => h) (yieldsIf_val (by rfl) (by intro W; go_simp)) h0 ?_
  simp only [List.setIfInBounds_toArray, List.set_cons_zero, List.set_cons_succ]
  refine hTakeS (i := 12) (k := 38) (v := .pointer (some ⟨b, 1, none⟩)) rfl rfl (by kernel_rfl) (by kernel_rfl) (by kernel_rfl) (fun _ _ _ h => h) (yieldsIf_val (by rfl) (by intro W; go_simp)) h0 ?_
  simp only [List.setIfInBounds_toArray, List.set_cons_zero, List.set_cons_succ]
  refine hTakeS (i := 13) (k := 39) (v := .int .i64 s1.port) rfl rfl (by kernel_rfl) (by kernel_rfl) (by kernel_rfl) (fun _ _ _ h => h) (.inl ⟨by rfl, fun W hW => by obtain ⟨b0, b1, b2⟩ := hW; go_simp⟩) h0 ?_
  simp only [List.setIfInBounds_toArray, List.set_cons_zero, List.set_cons_succ]
  refine hTakeS (i := 14) (k := 40) (v := .agg (ReqC q s1.id s1.port)) rfl rfl (by kernel_rfl) (by kernel_rfl) (by kernel_rfl) (fun _ _ _ h => h) (yieldsIf_val (by rfl) (fun W => build_opG _ _ rfl _ (by simp only [List.map_toArray, List.map_cons, List.map_nil]; exact Try.builtReq q s1.id s1.port) W)) h0 ?_
  simp only [List.setIfInBounds_toArray, List.set_cons_zero, List.set_cons_succ]
  have hx := HR.out.drew.row (g := w.heap.size) (cs := (ReqC q s1.id s1.port)) HZ.out
  refine hOneNS (i := 15) (w' := (W.drew.setRow w.heap.size (ReqC q s1.id s1.port))) (by kernel_rfl) rfl rfl (by rfl) (store_opG _ _ _ rfl w.heap.size (ReqC q s1.id s1.port) rfl rfl _ _ _ HZ.out (by kernel_rfl) rfl (by simp [ReqC, Value.oneCell'])) ⟨hx.c0, hx.c1, hx.c6⟩ ?_
  refine hOneS (i := 16) (k := 3) (v := .bool true) (by kernel_rfl) rfl rfl (by rfl) (by go_simp) ⟨hx.c0, hx.c1, hx.c6⟩ ?_
  simp only [List.setIfInBounds_toArray, List.set_cons_zero, List.set_cons_succ]
  refine wpAnyH_done (by kernel_rfl) ?_ _
  go_wp2_with fail
  refine bodyM2 rfl w.heap.size (ReqC q s1.id s1.port) _ rfl rfl (setRow_heap _ _ _ _ _ _ HZ.out) rfl rfl ?_
  exact ⟨rfl, ⟨_, hx⟩, HB.out.drew.row (Nat.le_refl _) _⟩
theorem ask_any {w : World} {b : Nat} {s : PS} (h : Pr w b s) (q0 : 0 ≤ s.seq) (q1 : s.seq ≤ 65535) (f0 : 0 ≤ s.failed) (f1 : s.failed ≤ 4611686018427387904) : Calls Try.prog 18 #[.pointer (some ⟨b, 0, none⟩)] w fun e w' => e = .returned (.tuple #[.agg (ReqC ((s.seq + 1) % 65536) s.id s.port), .bool true]) ∧ Leave b w s.ask w' := by
  by_cases hs : s.stage = 0
  · exact ask_closed h hs q0 q1
  · exact ask_open h hs q0 q1 f0 f1

end Go.Proofs.Ytnfoimkiihfalaa
