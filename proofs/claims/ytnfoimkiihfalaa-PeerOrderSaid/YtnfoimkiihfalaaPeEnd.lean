/- Package peer: end, where nothing fails. -/
import Derived.Test.YtnfoimkiihfalaaPeReck
namespace Go.Proofs.Ytnfoimkiihfalaa
open Go.RowKit Go.Joins

theorem Try.infoMark : (Try.prog.info? 87).map (fun i => (i.zero, i.size, i.bytes)) = some (some (.agg #[.int .i64 0, .int .i64 0]), 2, 16) := by kernel_rfl
/-- A row without room, and one more. -/
theorem Mks.app {w : World} {p : Option Addr} {n : Nat} {L : List (Int × Int)} (h : Mks w (.slice p n n) L) (hn : n = L.length) (x : Int × Int) (ad : Addr) (hx : ∀ j u, (two2 x)[j]? = some u → w.cell? (ad.add j) = some u) (hl : n < 100) :
    ∃ g c w', (∀ ty, (Builtin.append_ #[72, 72] ty #[.slice p n n, .slice (some ad) 1 1]).run Try.prog w = .ok (.slice (some ⟨g, 0, none⟩) (n + 1) c) w') ∧ Mks w' (.slice (some ⟨g, 0, none⟩) (n + 1) c) (L ++ [x]) ∧ Below w.heap.size w w' := by
  obtain ⟨i0, hi, hz0, hz1, hz2⟩ := info_parts Try.infoMark
  have hlen : (two2 x).length = 1 * i0.size := by rw [hz1]; rfl
  have hl2 : (L ++ [x]).length = n + 1 := by simp [hn]
  have hiv : mv2 (L ++ [x]) = mv2 L ++ two2 x := by rw [mv2_app]; simp [mv2]
  rcases h with ⟨e, rfl⟩ | ⟨g, o, c, cs, fr, e, h2, h3, h4, h5⟩
  · injection e with e1 e2 e3
    subst e1 e2
    have key := fun ty => run_append_nil (P := Try.prog) w 72 ty 87 i0 _ Try.underlying72 hi hz0 ad 1 1 (two2 x) hlen hx (by omega) (by omega) (by rw [hz2]; omega)
    refine ⟨_, _, _, key, .inr ⟨w.heap.size, 0, _, _, (0, 0), by rw [hl2], by rw [hl2]; omega, heap_alloc_new w.drew _, ?_, ?_⟩, bAl (bDr1 (bRef w)) _⟩
    · have := grownCap_ge w 1 0 87
      simpa using this
    · intro j u hu
      rw [hiv] at hu
      simp only [mv2, List.flatMap_nil, List.nil_append] at hu
      rw [Nat.zero_add, Array.getElem?_append_left (by have := (List.getElem?_eq_some_iff.1 hu).1; simpa using this)]
      simpa using hu
  · injection e with e1 e2 e3
    subst e1
    have hold : ∀ j u, (mv2 L)[j]? = some u → w.cell? ((⟨g, o, none⟩ : Addr).add j) = some u := fun j u hu => by
      have e : (⟨g, o, none⟩ : Addr).add j = ⟨g, o + j, none⟩ := by unfold Addr.add; split <;> simp_all
      rw [e, cell_of_row w g _ _ _ _ h3]
      exact h5 j u hu
    have key := fun ty => run_append_grow (P := Try.prog) w 72 ty 87 i0 _ Try.underlying72 hi hz0 ⟨g, o, none⟩ n n (mv2 L) (by rw [mv2_len, hz1, hn]) hold ad 1 1 (two2 x) hlen hx (by omega) (by omega) (growslice_fits (by omega) (by rw [hz2]; omega))
    refine ⟨_, _, _, key, .inr ⟨w.heap.size, 0, _, _, (0, 0), by rw [hl2], by rw [hl2]; omega, heap_alloc_new w.drew _, ?_, ?_⟩, bAl (bDr1 (bRef w)) _⟩
    · have := grownCap_ge w (n + 1) n 87
      rw [hl2]; exact this
    · intro j u hu
      rw [hiv] at hu
      have hj := (List.getElem?_eq_some_iff.1 hu).1
      rw [Nat.zero_add, Array.getElem?_append_left (by simpa using hj)]
      simpa using hu
/-- The marks that are kept. -/
def keptM (win : Int) (L : List (Int × Int)) : List (Int × Int) := L.drop (L.length - win.toNat)
theorem app_op {a : Act} {o : Oper} {w w' : World} {v u v' : Value} (s x : Operand) (T : TypeId) (ho : o.op = .call { callee := .builtin .append, args := #[s, x], argTypes := #[T, T] }) (hs : a.eval s = v) (hx : a.eval x = u)
    (hr : ∀ ty, (Builtin.append_ #[T, T] ty #[v, u]).run Try.prog w = .ok v' w') : (execOp a.eval o).run Try.prog w = .ok (.value v') w' := by
  unfold execOp
  simp only [ho, resolve, invoke, builtin, Sem.run_bind, Sem.run_pure, Result.andThen_ok, List.map_toArray, List.map_cons, List.map_nil, hs, hx, hr]
theorem Mks.nil (w : World) : Mks w (.slice none 0 0) [] := .inl ⟨rfl, rfl⟩
theorem Mks.cap {w : World} {p : Option Addr} {n c : Nat} {L : List (Int × Int)} (h : Mks w (.slice p n c) L) (hn : n = L.length) : Mks w (.slice p n n) L := by
  rcases h with ⟨e, rfl⟩ | ⟨g, o, c', cs, fr, e, h2, h3, h4, h5⟩
  · injection e with e1 e2 e3
    subst e1 e2
    exact .inl ⟨rfl, rfl⟩
  · injection e with e1 e2 e3
    exact .inr ⟨g, o, n, cs, fr, by rw [e1, hn], h2, h3, by omega, h5⟩
theorem Mks.at0 {w : World} {g n c k : Nat} {L : List (Int × Int)} {x : Int × Int} (h : Mks w (.slice (some ⟨g, 0, none⟩) n c) L) (hk : L[k]? = some x) : w.cell? ⟨g, k * 2, none⟩ = some (.int .i64 x.1) ∧ w.cell? ⟨g, k * 2 + 1, none⟩ = some (.int .i64 x.2) := by
  obtain ⟨g', o', e, a, b⟩ := h.at hk
  injection e with e
  injection e with e1 e2
  subst e1 e2
  rw [Nat.zero_add] at a b
  exact ⟨a, b⟩
theorem Mks.setp {w : World} {v : Value} {L : List (Int × Int)} {b : Nat} {cs : Array Value} {fr : Nat × Nat} (h : Mks w v L) (hb : w.heap[b]? = some (.cells cs 74 fr)) (i : Nat) (x : Value) : Mks (w.setCell ⟨b, i, none⟩ x) v L :=
  h.keep fun k c f hk => heap_setCell_other w ⟨b, i, none⟩ k x (by
    intro e
    have e : k = b := e
    subst e
    rw [hb] at hk
    injection hk with hk
    injection hk with _ hk
    exact absurd hk (by decide))
theorem two_cells (w : World) (t3 t4 : Int) (j : Nat) (u : Value) (hu : (two2 (t3, t4))[j]? = some u) : (w.alloc (.cells #[.int .i64 t3, .int .i64 t4] 87)).cell? ((⟨w.heap.size, 0, none⟩ : Addr).add j) = some u := by
  have e : (⟨w.heap.size, 0, none⟩ : Addr).add j = ⟨w.heap.size, j, none⟩ := by unfold Addr.add; split <;> simp_all
  rw [e, cell_of_row _ _ _ _ _ _ (heap_alloc_new w _)]
  simpa [two2] using hu
theorem one_lt_s {n : Nat} (h : 0 < n) : decide ((1 : Int) < (n : Int) + 1) = true := decide_eq_true (by omega)
theorem sub_w {n : Nat} {x : Int} (h : n ≤ 33) (h1 : 1 ≤ x) (h2 : x ≤ 32) : IntKind.i64.wrap ((n : Int) - x) = (n : Int) - x := by rw [IntKind.wrap_i64]; omega
theorem sub_w1 {k : Nat} {x : Int} (h : ((k + 1 : Nat) : Int) = x + 1) : IntKind.i64.wrap ((k : Int) + 1 - x) = 1 := by rw [IntKind.wrap_i64]; omega
theorem max_no {n : Nat} {x : Int} (h : (n : Int) ≤ x) : max 0 ((n : Int) - x) = 0 := by omega
theorem win_le {k : Nat} {x : Int} (h : x ≤ 32) (h2 : (k : Int) ≤ x) : k ≤ 32 := by omega
theorem win_le1 {k n : Nat} {x : Int} (h : x ≤ 32) (h2 : (n : Int) = x + 1) (h3 : n = k + 1) : k ≤ 32 := by omega
theorem cap_no {k c : Nat} (h : k + 1 ≤ c) : ¬ (c - 1 < k) := by omega
theorem cap_n1 {k c : Nat} (h : k + 1 ≤ c) (h2 : 0 < k) : ¬ c = 1 := by omega
theorem one_le_s (k : Nat) : (1 : Int) ≤ (k : Int) + 1 := by omega
theorem wrap_s {n : Nat} (h : n ≤ 32) : wrap64 ((n : Int) + 1) = (n : Int) + 1 := by unfold wrap64; omega
set_option maxHeartbeats 4000000 in
theorem end_first {w : World} {b : Nat} {s : PS} (h : Pr w b s) (t3 : Int) (hm : s.ms = []) (hw1 : 1 ≤ s.win) (hw2 : s.win ≤ 32) :
    Calls Try.prog 46 #[.pointer (some ⟨b, 0, none⟩), .int .i64 t3] w fun e w' => e = .returned (.int .i64 0) ∧ Leave b w { s with ms := [(t3, s.t4)], failed := 0, stage := 0 } w' := by
  obtain ⟨v, h⟩ := h
  have hv : v = .slice none 0 0 := by
    rcases h.mks with ⟨e, _⟩ | ⟨_, _, _, _, _, _, e, _⟩
    · exact e
    · rw [hm] at e; simp at e
  subst hv
  have hz : IntKind.i64.wrap (((0 : Nat) : Int) - s.win) = -s.win := by rw [IntKind.wrap_i64]; omega
  have hz2 : IntKind.i64.wrap (0 - s.win) = -s.win := by rw [IntKind.wrap_i64]; omega
  have hz3 : IntKind.i64.wrap (-s.win) = -s.win := by rw [IntKind.wrap_i64]; omega
  have hx0 : max 0 (-s.win) = 0 := by omega
  clear hw1 hw2
  have c4 := h.c4
  have c10 := h.c10
  have c11 := h.c11
  have hlt := h.lt
  have H := Lib.hid h
  go_enter Try.func46, Try.ntmps46
  go_wp2_with fail
  have h0 : (fun V => V.cell? ⟨b, 4, none⟩ = some (.int .i64 s.win) ∧ V.cell? ⟨b, 11, none⟩ = some (.slice none 0 0)) w.drew := ⟨c4, c11⟩
  refine wp_region_held_drew (S := fun V => V.cell? ⟨b, 4, none⟩ = some (.int .i64 s.win) ∧ V.cell? ⟨b, 11, none⟩ = some (.slice none 0 0)) (by kernel_rfl) h0 (fun h0 => ?_)
  refine hTakeS (i := 0) (k := 10) (v := .pointer (some ⟨b, 0, none⟩)) rfl rfl (by kernel_rfl) (by kernel_rfl) (by kernel_rfl) (fun _ _ _ h => h) (yieldsIf_val (by rfl) (by intro W; go_simp)) h0 ?_
  simp only [List.setIfInBounds_toArray, List.set_cons_zero, List.set_cons_succ]
  refine hTakeS (i := 1) (k := 11) (v := .pointer (some ⟨b, 0, none⟩)) rfl rfl (by kernel_rfl) (by kernel_rfl) (by kernel_rfl) (fun _ _ _ h => h) (yieldsIf_val (by rfl) (by intro W; go_simp)) h0 ?_
  simp only [List.setIfInBounds_toArray, List.set_cons_zero, List.set_cons_succ]
  refine hTakeS (i := 2) (k := 12) (v := .pointer (some ⟨b, 11, none⟩)) rfl rfl (by kernel_rfl) (by kernel_rfl) (by kernel_rfl) (fun _ _ _ h => h) (yieldsIf_val (by rfl) (by intro W; go_simp)) h0 ?_
  simp only [List.setIfInBounds_toArray, List.set_cons_zero, List.set_cons_succ]
  refine hTakeS (i := 3) (k := 13) (v := .slice none 0 0) rfl rfl (by kernel_rfl) (by kernel_rfl) (by kernel_rfl) (fun _ _ _ h => h) (.inl ⟨by rfl, fun W hW => by obtain ⟨b0, b1⟩ := hW; go_simp⟩) h0 ?_
  simp only [List.setIfInBounds_toArray, List.set_cons_zero, List.set_cons_succ]
  refine hTakeS (i := 4) (k := 14) (v := .pointer (some ⟨b, 0, none⟩)) rfl rfl (by kernel_rfl) (by kernel_rfl) (by kernel_rfl) (fun _ _ _ h => h) (yieldsIf_val (by rfl) (by intro W; go_simp)) h0 ?_
  simp only [List.setIfInBounds_toArray, List.set_cons_zero, List.set_cons_succ]
  refine hTakeS (i := 5) (k := 15) (v := .pointer (some ⟨b, 0, none⟩)) rfl rfl (by kernel_rfl) (by kernel_rfl) (by kernel_rfl) (fun _ _ _ h => h) (yieldsIf_val (by rfl) (by intro W; go_simp)) h0 ?_
  simp only [List.setIfInBounds_toArray, List.set_cons_zero, List.set_cons_succ]
  refine hTakeS (i := 6) (k := 16) (v := .pointer (some ⟨b, 11, none⟩)) rfl rfl (by kernel_rfl) (by kernel_rfl) (by kernel_rfl) (fun _ _ _ h => h) (yieldsIf_val (by rfl) (by intro W; go_simp)) h0 ?_
  simp only [List.setIfInBounds_toArray, List.set_cons_zero, List.set_cons_succ]
  refine hTakeS (i := 7) (k := 17) (v := .slice none 0 0) rfl rfl (by kernel_rfl) (by kernel_rfl) (by kernel_rfl) (fun _ _ _ h => h) (.inl ⟨by rfl, fun W hW => by obtain ⟨b0, b1⟩ := hW; go_simp⟩) h0 ?_
  simp only [List.setIfInBounds_toArray, List.set_cons_zero, List.set_cons_succ]
  refine hTakeS (i := 8) (k := 18) (v := .int .i64 0) rfl rfl (by kernel_rfl) (by kernel_rfl) (by kernel_rfl) (fun _ _ _ h => h) (yieldsIf_val (by rfl) (by intro W; go_simp)) h0 ?_
  simp only [List.setIfInBounds_toArray, List.set_cons_zero, List.set_cons_succ]
  refine hTakeS (i := 9) (k := 19) (v := .pointer (some ⟨b, 0, none⟩)) rfl rfl (by kernel_rfl) (by kernel_rfl) (by kernel_rfl) (fun _ _ _ h => h) (yieldsIf_val (by rfl) (by intro W; go_simp)) h0 ?_
  simp only [List.setIfInBounds_toArray, List.set_cons_zero, List.set_cons_succ]
  refine hTakeS (i := 10) (k := 20) (v := .pointer (some ⟨b, 0, none⟩)) rfl rfl (by kernel_rfl) (by kernel_rfl) (by kernel_rfl) (fun _ _ _ h => h) (yieldsIf_val (by rfl) (by intro W; go_simp)) h0 ?_
  simp only [List.setIfInBounds_toArray, List.set_cons_zero, List.set_cons_succ]
  refine hTakeS (i := 11) (k := 21) (v := .pointer (some ⟨b, 0, none⟩)) rfl rfl (by kernel_rfl) (by kernel_rfl) (by kernel_rfl) (fun _ _ _ h => h) (yieldsIf_val (by rfl) (by intro W; go_simp)) h0 ?_
  simp only [List.setIfInBounds_toArray, List.set_cons_zero, List.set_cons_succ]
  refine hTakeS (i := 12) (k := 22) (v := .pointer (some ⟨b, 4, none⟩)) rfl rfl (by kernel_rfl) (by kernel_rfl) (by kernel_rfl) (fun _ _ _ h => h) (yieldsIf_val (by rfl) (by intro W; go_simp)) h0 ?_
  simp only [List.setIfInBounds_toArray, List.set_cons_zero, List.set_cons_succ]
  refine hTakeS (i := 13) (k := 23) (v := .int .i64 s.win) rfl rfl (by kernel_rfl) (by kernel_rfl) (by kernel_rfl) (fun _ _ _ h => h) (.inl ⟨by rfl, fun W hW => by obtain ⟨b0, b1⟩ := hW; go_simp⟩) h0 ?_
  simp only [List.setIfInBounds_toArray, List.set_cons_zero, List.set_cons_succ]
  refine hTakeS (i := 14) (k := 24) (v := .int .i64 (-s.win)) rfl rfl (by kernel_rfl) (by kernel_rfl) (by kernel_rfl) (fun _ _ _ h => h) (yieldsIf_val (by rfl) (by intro W; go_simp)) h0 ?_
  simp only [List.setIfInBounds_toArray, List.set_cons_zero, List.set_cons_succ]
  refine hTakeS (i := 15) (k := 25) (v := .int .i64 0) rfl rfl (by kernel_rfl) (by kernel_rfl) (by kernel_rfl) (fun _ _ _ h => h) (yieldsIf_val (by rfl) (by intro W; go_simp)) h0 ?_
  simp only [List.setIfInBounds_toArray, List.set_cons_zero, List.set_cons_succ]
  refine hTakeS (i := 16) (k := 26) (v := .slice none 0 0) rfl rfl (by kernel_rfl) (by kernel_rfl) (by kernel_rfl) (fun _ _ _ h => h) (yieldsIf_val (by rfl) (by intro W; go_simp)) h0 ?_
  simp only [List.setIfInBounds_toArray, List.set_cons_zero, List.set_cons_succ]
  refine hTakeS (i := 17) (k := 5) (v := .slice none 0 0) rfl rfl (by kernel_rfl) (by kernel_rfl) (by kernel_rfl) (fun _ _ _ h => h) (yieldsIf_val (by rfl) (by intro W; go_simp)) h0 ?_
  simp only [List.setIfInBounds_toArray, List.set_cons_zero, List.set_cons_succ]
  refine wpAnyH_done (by kernel_rfl) ?_ _
  obtain ⟨b4, b11⟩ := h0
  go_wp2_with fail
  have h0 : (fun V => V.cell? ⟨b, 10, none⟩ = some (.int .i64 s.t4)) w.drew.drew := c10
  refine wp_region_held_drew (S := fun V => V.cell? ⟨b, 10, none⟩ = some (.int .i64 s.t4)) (by kernel_rfl) h0 (fun h0 => ?_)
  refine hTakeS (i := 0) (k := 27) (v := .slice none 0 0) rfl rfl (by kernel_rfl) (by kernel_rfl) (by kernel_rfl) (fun _ _ _ h => h) (yieldsIf_val (by rfl) (by intro W; go_simp)) h0 ?_
  simp only [List.setIfInBounds_toArray, List.set_cons_zero, List.set_cons_succ]
  refine hTakeS (i := 1) (k := 28) (v := .slice none 0 0) rfl rfl (by kernel_rfl) (by kernel_rfl) (by kernel_rfl) (fun _ _ _ h => h) (yieldsIf_val (by rfl) (by intro W; go_simp)) h0 ?_
  simp only [List.setIfInBounds_toArray, List.set_cons_zero, List.set_cons_succ]
  refine hTakeS (i := 2) (k := 29) (v := .int .i64 0) rfl rfl (by kernel_rfl) (by kernel_rfl) (by kernel_rfl) (fun _ _ _ h => h) (yieldsIf_val (by rfl) (by intro W; go_simp)) h0 ?_
  simp only [List.setIfInBounds_toArray, List.set_cons_zero, List.set_cons_succ]
  refine hTakeS (i := 3) (k := 30) (v := .slice none 0 0) rfl rfl (by kernel_rfl) (by kernel_rfl) (by kernel_rfl) (fun _ _ _ h => h) (yieldsIf_val (by rfl) (by intro W; go_simp)) h0 ?_
  simp only [List.setIfInBounds_toArray, List.set_cons_zero, List.set_cons_succ]
  refine hTakeS (i := 4) (k := 31) (v := .int .i64 0) rfl rfl (by kernel_rfl) (by kernel_rfl) (by kernel_rfl) (fun _ _ _ h => h) (yieldsIf_val (by rfl) (by intro W; go_simp)) h0 ?_
  simp only [List.setIfInBounds_toArray, List.set_cons_zero, List.set_cons_succ]
  refine hTakeS (i := 5) (k := 32) (v := .slice none 0 0) rfl rfl (by kernel_rfl) (by kernel_rfl) (by kernel_rfl) (fun _ _ _ h => h) (yieldsIf_val (by rfl) (by intro W; go_simp)) h0 ?_
  simp only [List.setIfInBounds_toArray, List.set_cons_zero, List.set_cons_succ]
  refine hTakeS (i := 6) (k := 33) (v := .int .i64 t3) rfl rfl (by kernel_rfl) (by kernel_rfl) (by kernel_rfl) (fun _ _ _ h => h) (yieldsIf_val (by rfl) (by intro W; go_simp)) h0 ?_
  simp only [List.setIfInBounds_toArray, List.set_cons_zero, List.set_cons_succ]
  refine hTakeS (i := 7) (k := 34) (v := .pointer (some ⟨b, 0, none⟩)) rfl rfl (by kernel_rfl) (by kernel_rfl) (by kernel_rfl) (fun _ _ _ h => h) (yieldsIf_val (by rfl) (by intro W; go_simp)) h0 ?_
  simp only [List.setIfInBounds_toArray, List.set_cons_zero, List.set_cons_succ]
  refine hTakeS (i := 8) (k := 35) (v := .pointer (some ⟨b, 0, none⟩)) rfl rfl (by kernel_rfl) (by kernel_rfl) (by kernel_rfl) (fun _ _ _ h => h) (yieldsIf_val (by rfl) (by intro W; go_simp)) h0 ?_
  simp only [List.setIfInBounds_toArray, List.set_cons_zero, List.set_cons_succ]
  refine hTakeS (i := 9) (k := 36) (v := .pointer (some ⟨b, 10, none⟩)) rfl rfl (by kernel_rfl) (by kernel_rfl) (by kernel_rfl) (fun _ _ _ h => h) (yieldsIf_val (by rfl) (by intro W; go_simp)) h0 ?_
  simp only [List.setIfInBounds_toArray, List.set_cons_zero, List.set_cons_succ]
  refine hTakeS (i := 10) (k := 37) (v := .int .i64 s.t4) rfl rfl (by kernel_rfl) (by kernel_rfl) (by kernel_rfl) (fun _ _ _ h => h) (.inl ⟨by rfl, fun W hW => by go_simp⟩) h0 ?_
  simp only [List.setIfInBounds_toArray, List.set_cons_zero, List.set_cons_succ]
  refine hTakeS (i := 11) (k := 38) (v := .agg #[.int .i64 t3, .int .i64 s.t4]) rfl rfl (by kernel_rfl) (by kernel_rfl) (by kernel_rfl) (fun _ _ _ h => h) (yieldsIf_val (by rfl) (by intro W; go_simp)) h0 ?_
  simp only [List.setIfInBounds_toArray, List.set_cons_zero, List.set_cons_succ]
  have hbA : Below w.heap.size w (w.drew.drew.alloc (Obj.cells #[Value.int .i64 t3, Value.int .i64 s.t4] 87)) := bAl (bDr1 (bDr1 (bRef w))) _
  obtain ⟨g, c, W3, hrun, hm3, hb3⟩ := Mks.app ((Mks.nil w).below hbA) rfl (t3, s.t4) ⟨w.heap.size, 0, none⟩ (two_cells w.drew.drew t3 s.t4) (by decide)
  have hc10 := (hb3.cell (p := ⟨b, 10, none⟩) (Nat.lt_of_lt_of_le hlt hbA.size)).trans ((hbA.cell (p := ⟨b, 10, none⟩) hlt).trans c10)
  refine hOneS (i := 12) (k := 39) (v := .slice (some ⟨w.heap.size, 0, none⟩) 1 1) (w' := (w.drew.drew.alloc (Obj.cells #[Value.int .i64 t3, Value.int .i64 s.t4] 87))) (by kernel_rfl) rfl rfl (by rfl) (by go_simp) ((hbA.cell (p := ⟨b, 10, none⟩) hlt).trans c10) ?_
  simp only [List.setIfInBounds_toArray, List.set_cons_zero, List.set_cons_succ]
  refine hOneS (i := 13) (k := 40) (v := .slice (some ⟨g, 0, none⟩) (0 + 1) c) (w' := W3) (by kernel_rfl) rfl rfl (by rfl) (app_op (.tmp 32) (.tmp 39) 72 rfl rfl rfl hrun) hc10 ?_
  simp only [List.setIfInBounds_toArray, List.set_cons_zero, List.set_cons_succ]
  refine hOneS (i := 14) (k := 6) (v := .slice (some ⟨g, 0, none⟩) (0 + 1) c) (w' := W3) (by kernel_rfl) rfl rfl (by rfl) (by go_simp) hc10 ?_
  simp only [List.setIfInBounds_toArray, List.set_cons_zero, List.set_cons_succ]
  refine wpAnyH_done (by kernel_rfl) ?_ _
  have hB3 := hbA.trans (hb3.mono hbA.size)
  have hp3 := H.out.below hB3
  have HF := Lib.hid ((((hp3.set 11 (.slice (some ⟨g, 0, none⟩) (0 + 1) c) (s' := { s with ms := [(t3, s.t4)] }) rfl hm3).set 14 (.int .i64 0) (s' := { s with ms := [(t3, s.t4)], failed := 0 }) rfl (hm3.setp hp3.box 11 _)).set 7 (.int .i64 0) (s' := { s with ms := [(t3, s.t4)], failed := 0, stage := 0 }) rfl ((hm3.setp hp3.box 11 _).setp ((hp3.set 11 (.slice (some ⟨g, 0, none⟩) (0 + 1) c) (s' := { s with ms := [(t3, s.t4)] }) rfl hm3).box) 14 _)))
  have HG := Lib.hid (set_but (set_but (set_but (ButB.of_below (b := b) hB3) 11 (.slice (some ⟨g, 0, none⟩) (0 + 1) c)) 14 (.int .i64 0)) 7 (.int .i64 0))
  have k7 := hp3.c7
  have k11 := hp3.c11
  have k14 := hp3.c14
  have kf := hp3.fz
  clear hp3 hB3 hm3 hb3 hrun hbA hc10
  go_wp2_with fail
  go_ret
  exact ⟨rfl, ⟨_, HF.out⟩, HG.out⟩

end Go.Proofs.Ytnfoimkiihfalaa
