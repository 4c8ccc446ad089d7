/- MergeRuns: the law's own row of the reference's states. -/
import Derived.Test.YtnkblihdgfhcdaaSqSame
import Derived.Test.YtnkblihdgfhcdaaMgRunsA
import Derived.Deep.MidRow
namespace Go.Proofs.Ytnkblihdgfhcdaa
open Go.RowKit Go.Joins

theorem setCells_row {b : Nat} {t : TypeId} : ∀ (vs : List Value) (w : World) (o : Nat) (cs : Array Value), w.heap[b]? = some (.cells cs t (0, 0)) → ∃ cs', (w.setCells b o vs).heap[b]? = some (.cells cs' t (0, 0)) ∧ cs'.size = cs.size
  | [], _, _, cs, h => ⟨cs, h, rfl⟩
  | v :: vs, w, o, cs, h => by
    obtain ⟨cs', h1, h2⟩ := setCells_row vs (w.setCell ⟨b, o, none⟩ v) (o + 1) _ (heap_setCell_same w b o _ _ v h)
    exact ⟨cs', h1, by rw [h2]; simp⟩
theorem setCells_but {b : Nat} {t : TypeId} : ∀ (vs : List Value) (w : World) (o : Nat) (cs : Array Value), w.heap[b]? = some (.cells cs t (0, 0)) → ButB b w (w.setCells b o vs)
  | [], w, _, _, _ => ButB.refl b w
  | v :: vs, w, o, cs, h => (set_but h o v).trans (setCells_but vs (w.setCell ⟨b, o, none⟩ v) (o + 1) _ (heap_setCell_same w b o _ _ v h))
/-- The row: n states, what each has, the rows of ints that they point to. -/
structure StR (B : Nat) (W : World) (g n : Nat) (rs : Nat → RQ) (vs : Nat → Value) : Prop where
  row : ∃ cs, W.heap[g]? = some (.cells cs 39 (0, 0)) ∧ n * 13 ≤ cs.size
  at_ : ∀ k, k < n → W.rangeAt g (k * 13) (RA (rs k) (vs k)).toList
  la : ∀ k, k < n → LA W (vs k) (rs k).had
  hg : B ≤ g
section
variable {B g n : Nat} {W W' : World} {rs : Nat → RQ} {vs : Nat → Value}
theorem StR.lt (h : StR B W g n rs vs) : g < W.heap.size := by
  obtain ⟨cs, h1, _⟩ := h.row
  exact lt_of_heap h1
theorem StR.below (h : StR B W g n rs vs) (hb : Below W.heap.size W W') : StR B W' g n rs vs := by
  obtain ⟨⟨cs, h1, h2⟩, h3, h4, h5⟩ := h
  exact ⟨⟨cs, (hb.block g (lt_of_heap h1)).trans h1, h2⟩, fun k hk j v hv => (hb.cell (lt_of_heap h1)).trans (h3 k hk j v hv), fun k hk => (h4 k hk).below hb, h5⟩
theorem range_keep {w w' : World} {g o : Nat} {cs : List Value} (h : w.rangeAt g o cs) (hg : w'.heap[g]? = w.heap[g]?) : w'.rangeAt g o cs := fun j v hv => by
  have := h j v hv
  unfold World.cell? at this ⊢
  simp only [hg]
  exact this
/-- A block of another type turns. -/
theorem StR.but (h : StR B W g n rs vs) {b : Nat} (hb : ButB b W W') {cs : Array Value} {t : TypeId} {fr : Nat × Nat} (hc : W.heap[b]? = some (.cells cs t fr)) (hne : g ≠ b) (ht : t ≠ 3) : StR B W' g n rs vs := by
  obtain ⟨⟨cs', h1, h2⟩, h3, h4, h5⟩ := h
  have e := hb.block g (lt_of_heap h1) hne
  refine ⟨⟨cs', e.trans h1, h2⟩, fun k hk => range_keep (h3 k hk) e, fun k hk => (h4 k hk).keep fun b' cur fr' hb' => (hb.block b' (lt_of_heap hb') (fun e2 => ?_)).trans hb', h5⟩
  rw [e2, hc] at hb'
  injection hb' with hb'
  injection hb' with _ h6 _
  exact ht h6
theorem StR.there (h : StR B W g n rs vs) {k : Nat} (hk : k < n) : W.there g (k * 13) 13 := fun j hj => by
  obtain ⟨⟨cs, h1, h2⟩, h3, h4, h5⟩ := h
  have hl : k * 13 + j < cs.size := by omega
  refine ⟨?_, frozen_of_row _ _ _ _ _ h1⟩
  rw [cell_of_row _ _ _ _ _ _ h1]
  simp [hl]
/-- A state of the row is written. -/
theorem StR.set (h : StR B W g n rs vs) {k : Nat} (hk : k < n) (r : RQ) (v : Value) (hl : LA W v r.had) : StR B (W.setCells g (k * 13) (RA r v).toList) g n (upd rs k r) (upd vs k v) := by
  have hth := h.there hk
  obtain ⟨⟨cs, h1, h2⟩, h3, h4, h5⟩ := h
  obtain ⟨cs', h6, h7⟩ := setCells_row (RA r v).toList W (k * 13) cs h1
  have hb := setCells_but (RA r v).toList W (k * 13) cs h1
  have kl : ∀ {v' : Value} {xs : List Int}, LA W v' xs → LA (W.setCells g (k * 13) (RA r v).toList) v' xs := fun hh => hh.keep fun b' cur fr' hb' => (hb.block b' (lt_of_heap hb') (fun e2 => by
    rw [e2, h1] at hb'
    injection hb' with hb'
    injection hb' with _ h8 _
    exact absurd h8 (by decide))).trans hb'
  refine ⟨⟨cs', h6, by omega⟩, fun i hi => ?_, fun i hi => ?_, h5⟩
  · by_cases e : i = k
    · subst e
      rw [upd_same, upd_same]
      exact World.rangeAt_setCells_same W g (i * 13) _ hth
    · rw [upd_other _ _ e, upd_other _ _ e]
      refine World.rangeAt_setCells_apart (h3 i hi) g (k * 13) _ (.inr ?_)
      show i * 13 + 13 ≤ k * 13 ∨ k * 13 + 13 ≤ i * 13
      omega
  · by_cases e : i = k
    · subst e
      rw [upd_same, upd_same]
      exact kl hl
    · rw [upd_other _ _ e, upd_other _ _ e]
      exact kl (h4 i hi)
theorem StR.setB (h : StR B W g n rs vs) (o : Nat) (l : List Value) : ButB g W (W.setCells g o l) := by
  obtain ⟨cs, h1, _⟩ := h.row
  exact setCells_but l W o cs h1
end
/-- A state of the row is loaded, is stored. -/
theorem wpList_loadE {ops : Array Oper} {rest : List Oper} {o : Oper} {a : Act} {w : World} {Q : Exit → Act → World → Prop} (hgd : o.guard = none) (x : Operand) (ho : o.op = .load 39 x)
    (B g n k : Nat) (rs : Nat → RQ) (vs : Nat → Value) (hx : a.eval x = .pointer (some ⟨g, k * 13, none⟩)) (hr : StR B w g n rs vs) (hk : k < n)
    (h : wpList Try.prog ops Q rest (a.put o.dst (RV (rs k) (vs k))) w) : wpList Try.prog ops Q (o :: rest) a w :=
  wpList_load_mid hgd 39 x ho g (k * 13) hx (RA (rs k) (vs k)).toList _ (hr.at_ k hk) Try.underlying39 rfl (by kernel_rfl) (by simpa using h)
theorem wpList_storeE {ops : Array Oper} {rest : List Oper} {o : Oper} {a : Act} {w : World} {Q : Exit → Act → World → Prop} (hgd : o.guard = none) (x y : Operand) (ho : o.op = .store 39 x y)
    (B g n k : Nat) (rs : Nat → RQ) (vs : Nat → Value) (r : RQ) (p : Option Addr) (m c : Nat) (hx : a.eval x = .pointer (some ⟨g, k * 13, none⟩)) (hy : a.eval y = RV r (.slice p m c)) (hr : StR B w g n rs vs) (hk : k < n)
    (h : wpList Try.prog ops Q rest (a.put o.dst undef) (w.setCells g (k * 13) (RA r (.slice p m c)).toList)) : wpList Try.prog ops Q (o :: rest) a w :=
  wpList_store_mid hgd 39 x y ho g (k * 13) (RA r (.slice p m c)) hx hy (hr.there hk) (by kernel_rfl) (RA_one r p m c) h

/-- While the row grows. -/
def rv (L : List (RQ × Value)) : List Value := L.flatMap fun x => (RA x.1 x.2).toList
theorem rv_app (L M : List (RQ × Value)) : rv (L ++ M) = rv L ++ rv M := by unfold rv; rw [List.flatMap_append]
theorem rv_one1 (x : RQ × Value) : rv [x] = (RA x.1 x.2).toList := by simp [rv]
theorem rv_len (L : List (RQ × Value)) : (rv L).length = L.length * 13 := by
  induction L with
  | nil => rfl
  | cons x L ih =>
    have : rv (x :: L) = (RA x.1 x.2).toList ++ rv L := by simp [rv]
    rw [this, List.length_append, ih]
    show 13 + L.length * 13 = (L.length + 1) * 13
    omega
theorem rv_at (x : RQ × Value) : ∀ (k n : Nat) (j : Nat), k < n → j < 13 → (rv (List.replicate n x))[k * 13 + j]? = (RA x.1 x.2).toList[j]?
  | k, 0, _, h, _ => absurd h (by omega)
  | 0, n + 1, j, _, hj => by
    rw [List.replicate_succ, show x :: List.replicate n x = [x] ++ List.replicate n x from rfl, rv_app, rv_one1, List.getElem?_append_left (by show 0 * 13 + j < 13; omega)]
    simp
  | k + 1, n + 1, j, h, hj => by
    rw [List.replicate_succ, show x :: List.replicate n x = [x] ++ List.replicate n x from rfl, rv_app, rv_one1, List.getElem?_append_right (by show 13 ≤ (k + 1) * 13 + j; omega)]
    have := rv_at x k n j (by omega) hj
    rw [← this]
    congr 1
    show (k + 1) * 13 + j - 13 = _
    omega
theorem rv_one (L : List (RQ × Value)) (h : ∀ x ∈ L, ∃ p n c, x.2 = .slice p n c) : ∀ u ∈ rv L, u.oneCell' = true := by
  intro u hu
  obtain ⟨x, hx, hu⟩ := List.mem_flatMap.1 hu
  obtain ⟨p, n, c, e⟩ := h x hx
  rw [e] at hu
  have k := RA_one x.1 p n c
  rw [Array.all_eq_true'] at k
  exact k u (by simpa using hu)
theorem Try.infoSt : (Try.prog.info? 39).map (fun i => (i.zero, i.size, i.bytes)) = some (some (RV ⟨0, 0, 0, false, 0, [], 0, 0, 0, 0, 0, 0, 0⟩ (.slice none 0 0)), 13, 120) := by kernel_rfl
theorem at_appE {ops : Array Oper} {rest : List Oper} {d : Option Tmp} {t : TypeId} {s : String} {af : Array Edge} {a : Act} {w : World} {Q : Exit → Act → World → Prop}
    (h : wpList Try.prog ops Q (⟨d, .call { callee := .builtin .append, args := #[.tmp 98, .tmp 110], argTypes := #[68, 68] }, t, s, af, none⟩ :: rest) a w) : wpList Try.prog ops Q (⟨d, .call { callee := .builtin .append, args := #[.tmp 98, .tmp 110], argTypes := #[68, 68] }, t, s, af, none⟩ :: rest) a w := h
/-- A state is appended. -/
theorem wpList_appE {ops : Array Oper} {rest : List Oper} {o : Oper} {a : Act} {w : World} {Q : Exit → Act → World → Prop} (hgd : o.guard = none) (s x : Operand)
    (ho : o.op = .call { callee := .builtin .append, args := #[s, x], argTypes := #[68, 68] })
    (B : Nat) (v : Value) (y : RQ) (k g : Nat) (hs : a.eval s = v) (hx : a.eval x = .slice (some ⟨g, 0, none⟩) 1 1) (hown : w.ownsRow B 39 13 v k (rv (List.replicate k (y, .slice none 0 0)))) (hB : B ≤ w.heap.size) (hg : RB w g y (.slice none 0 0)) (hk : k ≤ 1000)
    (h : ∀ v' w', w'.ownsRow B 39 13 v' (k + 1) (rv (List.replicate (k + 1) (y, .slice none 0 0))) → w.grownBy w' v.ownBlock → wpList Try.prog ops Q rest (a.put o.dst v') w') : wpList Try.prog ops Q (o :: rest) a w := by
  obtain ⟨i0, hi, hz0, hz1, hz2⟩ := info_parts Try.infoSt
  refine wpList_append_own _ hgd s x 68 ho B 39 i0 _ 13 120 Try.underlying68 hi hz0 hz1 hz2 rfl (by decide) v k _ hs hown ⟨g, 0, none⟩ 1 1 (rv [(y, .slice none 0 0)]) hx (by rw [rv_len]; rfl) (fun j e he => ?_) (rv_one _ (fun x hx => by simp at hx; subst hx; exact ⟨_, _, _, rfl⟩)) (by unfold maxLen; omega) (by omega) hB ?_
  · rw [rv_one1] at he
    rw [Addr.add_mid, Nat.zero_add, cell_of_row _ _ _ _ _ _ hg, ← Array.getElem?_toList]
    exact he
  · intro v' w' h1 h2 h3
    rw [← rv_app, show List.replicate k (y, Value.slice none 0 0) ++ [(y, Value.slice none 0 0)] = List.replicate (k + 1) (y, Value.slice none 0 0) by rw [← List.replicate_succ']] at h1
    exact h v' w' h1 h2
/-- The row as it stands behind the loop. -/
theorem strow {W : World} {B n : Nat} {v : Value} {y : RQ} (h : W.ownsRow B 39 13 v n (rv (List.replicate n (y, .slice none 0 0)))) (hn : 0 < n) (hy : y.had = []) : ∃ g cap, v = .slice (some ⟨g, 0, none⟩) n cap ∧ StR B W g n (fun _ => y) (fun _ => .slice none 0 0) := by
  rcases h.2 with ⟨rfl, hz⟩ | ⟨g, cap, cur, rfl, hb, hg, hn2, _, hs, hcur⟩
  · omega
  · refine ⟨g, cap, rfl, ⟨cur, hg, by rw [hs]; exact Nat.mul_le_mul_right 13 hn2⟩, fun k hk j u hu => ?_, fun k _ => by rw [hy]; exact LA.nil W, hb⟩
    have hj : j < 13 := (List.getElem?_eq_some_iff.1 hu).1
    rw [h.cellAt (k * 13 + j) (by omega), rv_at _ k n j hk hj]; exact hu
/-- While the row grows: nothing below it turns. -/
structure Gr (x : World) (y : RQ) (v : Value) (k : Nat) (W : World) : Prop where
  row : W.ownsRow x.heap.size 39 13 v k (rv (List.replicate k (y, .slice none 0 0)))
  bel : Below x.heap.size x W
theorem Gr.below {x W W' : World} {y : RQ} {v : Value} {k : Nat} (h : Gr x y v k W) (hb : Below W.heap.size W W') : Gr x y v k W' := by
  refine ⟨?_, h.bel.trans (hb.mono h.bel.size)⟩
  obtain ⟨h1, h2⟩ := h.row
  rcases h2 with h2 | ⟨g, cap, cur, e, a1, a2, a3⟩
  · exact ⟨h1, .inl h2⟩
  · exact ⟨h1, .inr ⟨g, cap, cur, e, a1, (hb.block g (lt_of_heap a2)).trans a2, a3⟩⟩
theorem Gr.app {x W W' : World} {y : RQ} {v v' : Value} {k : Nat} (h : Gr x y v k W) (hr : W'.ownsRow x.heap.size 39 13 v' (k + 1) (rv (List.replicate (k + 1) (y, .slice none 0 0)))) (hg : W.grownBy W' v.ownBlock) : Gr x y v' (k + 1) W' := by
  refine ⟨hr, ⟨hg.os.trans h.bel.os, hg.tape.trans h.bel.tape, hg.output.trans h.bel.output, Nat.le_trans h.bel.size hg.size, fun i hi => (hg.block i (Nat.lt_of_lt_of_le hi h.bel.size) (fun e => ?_)).trans (h.bel.block i hi)⟩⟩
  rcases h.row.2 with ⟨rfl, _⟩ | ⟨g, cap, cur, rfl, a1, _⟩
  · cases e
  · injection e with e
    simp only at e
    omega
theorem Gr.start (x : World) (y : RQ) : Gr x y (.slice (some ⟨x.heap.size, 0, none⟩) 0 0) 0 (x.alloc (.cells #[] 39)) :=
  ⟨⟨rfl, .inr ⟨x.heap.size, 0, #[], rfl, Nat.le_refl _, heap_alloc_one' x _, Nat.le_refl _, by unfold maxLen; omega, rfl, rfl⟩⟩, bAl (bRef x) _⟩
theorem Gr.form {x W : World} {y : RQ} {v : Value} {k : Nat} (h : Gr x y v k W) : ∃ p m c, v = .slice p m c := by
  rcases h.row.2 with ⟨rfl, _⟩ | ⟨g, cap, cur, rfl, _⟩
  · exact ⟨_, _, _, rfl⟩
  · exact ⟨_, _, _, rfl⟩
end Go.Proofs.Ytnkblihdgfhcdaa
