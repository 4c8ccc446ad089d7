/- PortOpen: the law's rows of what waits, one for each class: eight rows of ints, in a box; beside the port. -/
import Derived.Test.YtllmfkodgalklaaPoNext
import Derived.Test.YtllmfkodgalklaaPoLaw
namespace Go.Proofs.Ytllmfkodgalklaa
open Go.RowKit Go.Joins

theorem neq_tagP {w : World} {r g : Nat} {c1 c2 : Array Value} {t1 t2 : TypeId} {f1 f2 : Nat × Nat} (h1 : w.heap[r]? = some (.cells c1 t1 f1)) (h2 : w.heap[g]? = some (.cells c2 t2 f2)) (ht : t1 ≠ t2) : r ≠ g := fun e => by
  subst e
  rw [h1] at h2
  injection h2 with h2
  injection h2 with _ h2 _
  exact ht h2
def iv1 (L : List Int) : List Value := L.map (fun x => .int .i64 x)
theorem iv1_len (L : List Int) : (iv1 L).length = L.length := by unfold iv1; rw [List.length_map]
theorem iv1_app (L M : List Int) : iv1 (L ++ M) = iv1 L ++ iv1 M := by unfold iv1; rw [List.map_append]
/-- A row of ints that may begin in the midst of its block. -/
def Qi (B : Nat) (w : World) (v : Value) (L : List Int) : Prop :=
  (v = .slice none 0 0 ∧ L = []) ∨ ∃ g o cap cur, v = .slice (some ⟨g, o, none⟩) L.length cap ∧ B ≤ g ∧ w.heap[g]? = some (.cells cur 3 (0, 0)) ∧ L.length ≤ cap ∧ cap ≤ maxLen ∧ o + cap ≤ cur.size ∧ ∀ (j : Nat) (u : Value), (iv1 L)[j]? = some u → cur[o + j]? = some u
section
variable {B : Nat} {w w' : World} {v : Value} {L : List Int}
theorem Qi.keep (h : Qi B w v L) (hk : ∀ g, v.ownBlock = some g → w'.heap[g]? = w.heap[g]?) : Qi B w' v L := by
  rcases h with h | ⟨g, o, cap, cur, h1, h2, h3, h4⟩
  · exact .inl h
  · exact .inr ⟨g, o, cap, cur, h1, h2, (hk g (by rw [h1]; rfl)).trans h3, h4⟩
theorem Qi.form (h : Qi B w v L) : ∃ p c, v = .slice p L.length c := by
  rcases h with ⟨rfl, rfl⟩ | ⟨g, o, cap, cur, rfl, _⟩
  · exact ⟨none, 0, rfl⟩
  · exact ⟨_, cap, rfl⟩
theorem Qi.tag (h : Qi B w v L) {g : Nat} (hg : v.ownBlock = some g) : B ≤ g ∧ ∃ cur, w.heap[g]? = some (.cells cur 3 (0, 0)) := by
  rcases h with ⟨rfl, _⟩ | ⟨g', o, cap, cur, rfl, h2, h3, _⟩
  · cases hg
  · injection hg with hg
    subst hg
    exact ⟨h2, cur, h3⟩
theorem Qi.below (h : Qi B w v L) (hb : Below w.heap.size w w') : Qi B w' v L := h.keep fun g hg => by
  obtain ⟨_, cur, h3⟩ := h.tag hg
  exact hb.block g (lt_of_heap h3)
theorem Qi.first {x : Int} (h : Qi B w v (x :: L)) : ∃ g o cap, v = .slice (some ⟨g, o, none⟩) (L.length + 1) cap ∧ w.cell? ⟨g, o, none⟩ = some (.int .i64 x) ∧ L.length + 1 ≤ cap ∧ cap ≤ maxLen ∧
    Qi B w (.slice (if cap = 1 then some ⟨g, o, none⟩ else some ⟨g, o + 1, none⟩) L.length (cap - 1)) L := by
  rcases h with ⟨_, h⟩ | ⟨g, o, cap, cur, h1, h2, h3, h4, h5, h6, h7⟩
  · cases h
  · have a0 := h7 0 _ rfl
    simp only [List.length_cons] at h4
    refine ⟨g, o, cap, h1, (cell_of_row w g o _ _ _ h3).trans a0, h4, h5, ?_⟩
    by_cases hc : cap = 1
    · rw [if_pos hc]
      have hl : L = [] := List.length_eq_zero_iff.1 (by omega)
      subst hl
      exact .inr ⟨g, o, cap - 1, cur, rfl, h2, h3, by simp, by omega, by omega, fun j u hu => by simp [iv1] at hu⟩
    · rw [if_neg hc]
      refine .inr ⟨g, o + 1, cap - 1, cur, rfl, h2, h3, by omega, by omega, by omega, fun j u hu => ?_⟩
      have := h7 (1 + j) u (by unfold iv1 at hu ⊢; rw [List.map_cons, Nat.add_comm, List.getElem?_cons_succ]; exact hu)
      rwa [← Nat.add_assoc] at this
end
theorem Try.infoInt : (Try.prog.info? 3).map (fun i => (i.zero, i.size, i.bytes)) = some (some (.int .i64 0), 1, 8) := by kernel_rfl
/-- One more is appended. -/
theorem Qi.app {B : Nat} {w : World} {v : Value} {L : List Int} (h : Qi B w v L) (hB : B ≤ w.heap.size) (x : Int) (ad : Addr) (c : Nat) (hn : ∀ (j : Nat) (u : Value), [Value.int .i64 x][j]? = some u → w.cell? (ad.add j) = some u) (hl : L.length < 100000) :
    ∃ v' w', (∀ ty, (Builtin.append_ #[61, 61] ty #[v, .slice (some ad) 1 c]).run Try.prog w = .ok v' w') ∧ Qi B w' v' (L ++ [x]) ∧ w.grownBy w' v.ownBlock ∧ (v'.ownBlock = v.ownBlock ∨ v'.ownBlock = some w.heap.size) := by
  obtain ⟨i0, hi, hz0, hz1, hz2⟩ := info_parts Try.infoInt
  have hlen : [Value.int .i64 x].length = 1 * i0.size := by rw [hz1]; rfl
  have hl2 : (L ++ [x]).length = L.length + 1 := by simp
  have hiv : iv1 (L ++ [x]) = iv1 L ++ [.int .i64 x] := iv1_app L [x]
  rcases h with ⟨rfl, rfl⟩ | ⟨g, o, cap, cur, rfl, h2, h3, h4, h5, h6, h7⟩
  · have key := fun ty => run_append_nil (P := Try.prog) w 61 ty 3 i0 _ Try.underlying61 hi hz0 ad 1 c [.int .i64 x] hlen hn (by omega) (by omega) (by rw [hz2]; omega)
    refine ⟨_, _, key, .inr ⟨w.heap.size, 0, _, _, rfl, hB, heap_alloc_new w.drew _, ?_, grownCap_le_maxLen w 1 0 _ (by unfold maxLen; omega), ?_, ?_⟩, ⟨rfl, rfl, rfl, by simp, fun k hk _ => heap_alloc_old w.drew _ hk⟩, .inr rfl⟩
    · have := grownCap_ge w 1 0 3
      simpa using this
    · have := grownCap_ge w 1 0 3
      simp only [Array.size_append, List.size_toArray, size_zeroCells]
      show 0 + grownCap w 1 0 _ ≤ 1 + (grownCap w 1 0 _ - 1) * 1
      omega
    · intro j u hu
      rw [hiv] at hu
      simp only [iv1, List.map_nil, List.nil_append] at hu
      rw [Nat.zero_add, Array.getElem?_append_left (by have := (List.getElem?_eq_some_iff.1 hu).1; simpa using this)]
      simpa using hu
  · by_cases hroom : L.length + 1 ≤ cap
    · have hfit : o + L.length * i0.size + [Value.int .i64 x].length ≤ cur.size := by rw [hz1]; show o + L.length * 1 + 1 ≤ cur.size; omega
      have key := fun ty => run_append_off (P := Try.prog) w 61 ty 3 i0 Try.underlying61 hi g o L.length cap cur h3 ad 1 c [.int .i64 x] hlen hn (by intro u hu; simp at hu; subst hu; rfl) hroom hfit
      refine ⟨_, _, key, .inr ⟨g, o, cap, _, by rw [hl2], h2, setRow_heap w g cur _ _ _ h3, by omega, h5, ?_, ?_⟩, ⟨rfl, rfl, rfl, by simp, fun k _ hk => setRow_other w g k _ (fun e => hk (by rw [e]; rfl))⟩, .inl rfl⟩
      · rw [row_mid hfit]; exact h6
      · intro j u hu
        rw [hiv] at hu
        rw [row_mid_at hfit, hz1]
        by_cases hj : j < L.length
        · rw [List.getElem?_append_left (by rw [iv1_len]; omega)] at hu
          rw [if_pos (by omega)]
          exact h7 j u hu
        · rw [List.getElem?_append_right (by rw [iv1_len]; omega), iv1_len] at hu
          have hj2 := (List.getElem?_eq_some_iff.1 hu).1
          rw [if_neg (by omega), if_pos (by omega)]
          rw [show o + j - (o + L.length * 1) = j - L.length by omega]
          exact hu
    · have hold : ∀ j u, (iv1 L)[j]? = some u → w.cell? ((⟨g, o, none⟩ : Addr).add j) = some u := fun j u hu => by
        have e : (⟨g, o, none⟩ : Addr).add j = ⟨g, o + j, none⟩ := by unfold Addr.add; split <;> simp_all
        rw [e, cell_of_row w g _ _ _ _ h3]
        exact h7 j u hu
      have key := fun ty => run_append_grow (P := Try.prog) w 61 ty 3 i0 _ Try.underlying61 hi hz0 ⟨g, o, none⟩ L.length cap (iv1 L) (by rw [iv1_len, hz1, Nat.mul_one]) hold ad 1 c [.int .i64 x] hlen hn (by omega) (by omega) (growslice_fits (by omega) (by rw [hz2]; omega))
      refine ⟨_, _, key, .inr ⟨w.heap.size, 0, _, _, by rw [hl2], hB, heap_alloc_new w.drew _, ?_, grownCap_le_maxLen w _ _ _ (by unfold maxLen; omega), ?_, ?_⟩, ⟨rfl, rfl, rfl, by simp, fun k hk _ => heap_alloc_old w.drew _ hk⟩, .inr rfl⟩
      · have := grownCap_ge w (L.length + 1) cap 3
        rw [hl2]; exact this
      · have := grownCap_ge w (L.length + 1) cap 3
        simp only [Array.size_append, List.size_toArray, size_zeroCells, iv1_len]
        show 0 + grownCap w (L.length + 1) cap _ ≤ L.length + 1 + (grownCap w (L.length + 1) cap _ - (L.length + 1)) * 1
        omega
      · intro j u hu
        rw [hiv] at hu
        have hj := (List.getElem?_eq_some_iff.1 hu).1
        rw [Nat.zero_add, Array.getElem?_append_left (by simpa using hj)]
        simpa using hu
def h8 (vs : Nat → Value) : Obj := .cells #[vs 0, vs 1, vs 2, vs 3, vs 4, vs 5, vs 6, vs 7] 62 (0, 0)
theorem h8_cells (vs : Nat → Value) {w : World} {b : Nat} (h : w.heap[b]? = some (h8 vs)) {k : Nat} (hk : k < 8) : w.cell? ⟨b, k, none⟩ = some (vs k) := by
  rw [cell_of_row _ _ _ _ _ _ h]
  rcases eight_cases hk with rfl | rfl | rfl | rfl | rfl | rfl | rfl | rfl <;> rfl
theorem h8_set (vs : Nat → Value) (c : Nat) (hc : c < 8) (x : Value) {W : World} {g : Nat} (h : W.heap[g]? = some (h8 vs)) : (W.setCell ⟨g, c, none⟩ x).heap[g]? = some (h8 (upd vs c x)) := by
  rw [heap_setCell_same W g c _ _ x h]
  rcases eight_cases hc with rfl | rfl | rfl | rfl | rfl | rfl | rfl | rfl <;> rfl
/-- The port, the law's list and its rows. -/
structure OpS (w : World) (k P hb : Nat) (b c : Int) (sl : Value) (ts : List (Int × Int)) (F : Nat → Prop) (s : LS) (H : Nat → List Int) (vs : Nat → Value) (W : World) : Prop where
  po : PoL w W k P F (PL.new b c ts) s
  box : W.heap[hb]? = some (h8 vs)
  row : ∀ d, d < 8 → Qi w.heap.size W (vs d) (H d)
  sep : ∀ d e, d < 8 → e < 8 → d ≠ e → ∀ g, (vs d).ownBlock = some g → (vs e).ownBlock ≠ some g
  nf : ∀ d, d < 8 → ∀ g, (vs d).ownBlock = some g → g ≠ k ∧ ¬ F g
  nb : hb ≠ k ∧ ¬ F hb
  lo : w.heap.size ≤ hb
  lst : LB W w.heap.size b c sl
  nl : w.heap.size ≠ k ∧ ¬ F w.heap.size
  arg : TArg w sl ts
/-- The same, but for one row. -/
structure OpX (d0 : Nat) (w : World) (k P hb : Nat) (b c : Int) (sl : Value) (ts : List (Int × Int)) (F : Nat → Prop) (s : LS) (H : Nat → List Int) (vs : Nat → Value) (W : World) : Prop where
  po : PoL w W k P F (PL.new b c ts) s
  box : W.heap[hb]? = some (h8 vs)
  row : ∀ d, d < 8 → d ≠ d0 → Qi w.heap.size W (vs d) (H d)
  sep : ∀ d e, d < 8 → e < 8 → d ≠ e → ∀ g, (vs d).ownBlock = some g → (vs e).ownBlock ≠ some g
  nf : ∀ d, d < 8 → ∀ g, (vs d).ownBlock = some g → g ≠ k ∧ ¬ F g
  nb : hb ≠ k ∧ ¬ F hb
  lo : w.heap.size ≤ hb
  lst : LB W w.heap.size b c sl
  nl : w.heap.size ≠ k ∧ ¬ F w.heap.size
  arg : TArg w sl ts
section
variable {w W W' : World} {k P hb : Nat} {b c : Int} {sl : Value} {ts : List (Int × Int)} {F : Nat → Prop} {s s' : LS} {H : Nat → List Int} {vs : Nat → Value}
theorem OpS.below (h : OpS w k P hb b c sl ts F s H vs W) (hb' : Below W.heap.size W W') : OpS w k P hb b c sl ts F s H vs W' :=
  { h with po := h.po.below hb', box := (hb'.block _ (lt_of_heap h.box)).trans h.box, row := fun d hd => (h.row d hd).below hb', lst := (hb'.block _ (lt_of_heap h.lst)).trans h.lst }
theorem OpS.targ (h : OpS w k P hb b c sl ts F s H vs W) : TArg W sl ts := h.arg.below h.po.bel
/-- The port turns. -/
theorem OpS.turn (h : OpS w k P hb b c sl ts F s H vs W) (hl : PLeft w W k P F (PL.new b c ts) s' W') : ∃ F', OpS w k P hb b c sl ts F' s' H vs W' := by
  have hk := fun (j : Nat) (o : Obj) => hl.kept (j := j) (o := o)
  obtain ⟨F', h1, h2, h3⟩ := hl
  have low : ∀ g, g < W.heap.size → ¬ F g → ¬ F' g := fun g hg hn f => by
    rcases h2 g f with f | f
    · exact hn f
    · omega
  have rlt : ∀ d, d < 8 → ∀ g, (vs d).ownBlock = some g → g < W.heap.size := fun d hd g hg => by
    obtain ⟨_, cur, h3⟩ := (h.row d hd).tag hg
    exact lt_of_heap h3
  exact ⟨F', h1, hk _ _ h.box h.nb.1 h.nb.2, fun d hd => (h.row d hd).keep fun g hg => h3.block g (rlt d hd g hg) (fun e => e.elim (h.nf d hd g hg).1 (h.nf d hd g hg).2), h.sep,
    fun d hd g hg => ⟨(h.nf d hd g hg).1, low g (rlt d hd g hg) (h.nf d hd g hg).2⟩, ⟨h.nb.1, low _ (lt_of_heap h.box) h.nb.2⟩, h.lo, hk _ _ h.lst h.nl.1 h.nl.2, ⟨h.nl.1, low _ (lt_of_heap h.lst) h.nl.2⟩, h.arg⟩
/-- A cell of the rows' box turns, and one row with it. -/
theorem OpS.x (h : OpS w k P hb b c sl ts F s H vs W) (d : Nat) : OpX d w k P hb b c sl ts F s H vs W := ⟨h.po, h.box, fun e he _ => h.row e he, h.sep, h.nf, h.nb, h.lo, h.lst, h.nl, h.arg⟩
theorem OpX.put {d : Nat} (h : OpX d w k P hb b c sl ts F s H vs W) (hd : d < 8) (v : Value) (L : List Int) (hr : Qi w.heap.size W v L) (ho : ∀ g, v.ownBlock = some g → (vs d).ownBlock = some g ∨ ((∀ e, e < 8 → (vs e).ownBlock ≠ some g) ∧ g ≠ k ∧ ¬ F g)) :
    OpS w k P hb b c sl ts F s (upd H d L) (upd vs d v) (W.setCell ⟨hb, d, none⟩ v) := by
  have hbut : ButB hb W (W.setCell ⟨hb, d, none⟩ v) := ⟨rfl, rfl, rfl, by simp, fun j _ hn => heap_setCell_other W ⟨hb, d, none⟩ j v hn⟩
  have hne : ∀ {v' : Value} {L' : List Int}, Qi w.heap.size W v' L' → ∀ g, v'.ownBlock = some g → g ≠ hb := fun hq g hg => by
    obtain ⟨_, cur, h3⟩ := hq.tag hg
    exact neq_tagP h3 h.box (by decide)
  refine ⟨h.po.other h.box (by decide) h.nb.1 h.nb.2 h.lo hbut, h8_set vs d hd v h.box, fun e he => ?_, fun e f he hf hef g hg => ?_, fun e he g hg => ?_, h.nb, h.lo, (hbut.block _ (lt_of_heap h.lst) (neq_tagP h.lst h.box (by decide))).trans h.lst, h.nl, h.arg⟩
  · by_cases g : e = d
    · subst g
      rw [upd_same, upd_same]
      exact hr.keep fun j hj => hbut.block j (by obtain ⟨_, cur, h3⟩ := hr.tag hj; exact lt_of_heap h3) (hne hr j hj)
    · rw [upd_other _ _ g, upd_other _ _ g]
      exact (h.row e he g).keep fun j hj => hbut.block j (by obtain ⟨_, cur, h3⟩ := (h.row e he g).tag hj; exact lt_of_heap h3) (hne (h.row e he g) j hj)
  · by_cases g1 : e = d
    · subst g1
      rw [upd_same] at hg
      rw [upd_other _ _ (Ne.symm hef)]
      rcases ho g hg with h1 | ⟨h1, _⟩
      · exact h.sep e f he hf hef g h1
      · exact h1 f hf
    · rw [upd_other _ _ g1] at hg
      by_cases g2 : f = d
      · subst g2
        rw [upd_same]
        intro h2
        rcases ho g h2 with h1 | ⟨h1, _⟩
        · exact h.sep f e hf he (Ne.symm hef) g h1 hg
        · exact h1 e he hg
      · rw [upd_other _ _ g2]
        exact h.sep e f he hf hef g hg
  · by_cases g1 : e = d
    · subst g1
      rw [upd_same] at hg
      rcases ho g hg with h1 | ⟨_, h1⟩
      · exact h.nf e he g h1
      · exact h1
    · rw [upd_other _ _ g1] at hg
      exact h.nf e he g hg
/-- What an append to a row leaves: all but that row's own block. -/
theorem OpS.grown (h : OpS w k P hb b c sl ts F s H vs W) {d : Nat} (hd : d < 8) (hg : W.grownBy W' (vs d).ownBlock) : OpX d w k P hb b c sl ts F s H vs W' := by
  have blk : ∀ (j : Nat) (cs : Array Value) (t : TypeId) (fr : Nat × Nat), W.heap[j]? = some (.cells cs t fr) → t ≠ 3 → some j ≠ (vs d).ownBlock := fun j cs t fr hj ht e => by
    obtain ⟨_, cur, h3⟩ := (h.row d hd).tag e.symm
    exact neq_tagP hj h3 ht rfl
  refine ⟨?_, (hg.block _ (lt_of_heap h.box) (blk _ _ _ _ h.box (by decide))).trans h.box, fun e he hne => (h.row e he).keep fun j hj => hg.block j (by obtain ⟨_, cur, h3⟩ := (h.row e he).tag hj; exact lt_of_heap h3) (fun e2 => h.sep e d he hd hne j hj e2.symm), h.sep, h.nf, h.nb, h.lo, (hg.block _ (lt_of_heap h.lst) (blk _ _ _ _ h.lst (by decide))).trans h.lst, h.nl, h.arg⟩
  cases ho : (vs d).ownBlock with
  | none =>
    rw [ho] at hg
    exact h.po.below ⟨hg.os, hg.tape, hg.output, hg.size, fun j hj => hg.block j hj (by simp)⟩
  | some g =>
    obtain ⟨hlow, cur, h3⟩ := (h.row d hd).tag ho
    rw [ho] at hg
    exact h.po.other h3 (by decide) (h.nf d hd g ho).1 (h.nf d hd g ho).2 hlow ⟨hg.os, hg.tape, hg.output, hg.size, fun j hj hn => hg.block j hj (fun e => hn (by injection e))⟩
/-- One more in a row. -/
theorem OpS.push (h : OpS w k P hb b c sl ts F s H vs W) {d : Nat} (hd : d < 8) (x : Int) (hl : (H d).length < 100000) : ∃ p' c' W2, (∀ ty, (Builtin.append_ #[61, 61] ty #[vs d, .slice (some ⟨W.heap.size, 0, none⟩) 1 1]).run Try.prog (W.alloc (.cells #[.int .i64 x] 3 (0, 0))) = .ok (.slice p' ((H d).length + 1) c') W2) ∧ W2.heap[hb]? = some (h8 vs) ∧
    OpS w k P hb b c sl ts F s (upd H d (H d ++ [x])) (upd vs d (.slice p' ((H d).length + 1) c')) (W2.setCell ⟨hb, d, none⟩ (.slice p' ((H d).length + 1) c')) := by
  have h1 := h.below (bAl (bRef W) (.cells #[.int .i64 x] 3 (0, 0)))
  have hsz : w.heap.size ≤ (W.alloc (.cells #[.int .i64 x] 3 (0, 0))).heap.size := h1.po.bel.size
  obtain ⟨v', W2, k1, k2, k3, k4⟩ := (h1.row d hd).app hsz x ⟨W.heap.size, 0, none⟩ 1 (fun j u hu => by
    have hj : j = 0 := by have := (List.getElem?_eq_some_iff.1 hu).1; simp at this; exact this
    subst hj
    have e : (⟨W.heap.size, 0, none⟩ : Addr).add 0 = ⟨W.heap.size, 0, none⟩ := by unfold Addr.add; split <;> simp_all
    rw [e, cell_of_row _ _ _ _ _ _ (heap_alloc_one W (.cells #[.int .i64 x] 3 (0, 0)))]
    exact hu) (by omega)
  have h2 := h1.grown hd k3
  obtain ⟨p', c', e5⟩ := k2.form
  rw [List.length_append] at e5
  have e5 : v' = .slice p' ((H d).length + 1) c' := e5
  subst e5
  refine ⟨p', c', W2, k1, h2.box, h2.put hd _ _ k2 (fun g hg => ?_)⟩
  rcases k4 with k4 | k4
  · exact .inl (k4.symm.trans hg)
  · rw [k4] at hg
    injection hg with hg
    subst hg
    have lt : ∀ g, g < (W.alloc (.cells #[.int .i64 x] 3 (0, 0))).heap.size → g ≠ (W.alloc (.cells #[.int .i64 x] 3 (0, 0))).heap.size := fun g hg => Nat.ne_of_lt hg
    refine .inr ⟨fun e he hv => ?_, ?_, fun f => ?_⟩
    · obtain ⟨_, cur, h3⟩ := (h1.row e he).tag hv
      exact lt _ (lt_of_heap h3) rfl
    · have := h1.po.klt
      omega
    · obtain ⟨sl2, hl2⟩ := h1.po.ln.ln
      have := hl2.top _ f
      omega
/-- The first one leaves a row. -/
theorem OpS.pop (h : OpS w k P hb b c sl ts F s H vs W) {d : Nat} (hd : d < 8) {x : Int} {L : List Int} (hH : H d = x :: L) : ∃ g o cap, vs d = .slice (some ⟨g, o, none⟩) (L.length + 1) cap ∧ W.cell? ⟨g, o, none⟩ = some (.int .i64 x) ∧ L.length + 1 ≤ cap ∧ cap ≤ maxLen ∧
    OpS w k P hb b c sl ts F s (upd H d L) (upd vs d (.slice (if cap = 1 then some ⟨g, o, none⟩ else some ⟨g, o + 1, none⟩) L.length (cap - 1))) (W.setCell ⟨hb, d, none⟩ (.slice (if cap = 1 then some ⟨g, o, none⟩ else some ⟨g, o + 1, none⟩) L.length (cap - 1))) := by
  have hr := h.row d hd
  rw [hH] at hr
  obtain ⟨g, o, cap, h1, h2, h3, h4, h5⟩ := hr.first
  refine ⟨g, o, cap, h1, h2, h3, h4, (h.x d).put hd _ _ h5 (fun g2 hg => .inl ?_)⟩
  rw [h1]
  by_cases hc : cap = 1
  · rw [if_pos hc] at hg
    exact hg
  · rw [if_neg hc] at hg
    exact hg
end

end Go.Proofs.Ytllmfkodgalklaa
