/- MergeRuns: the state of its great loop: the merge, the reference's states, and what the law counts. -/
import Derived.Test.YtnkblihdgfhcdaaMgRow
namespace Go.Proofs.Ytnkblihdgfhcdaa
open Go.RowKit Go.Joins

/-- The setup. -/
structure CF where
  n : Nat
  w1 : Int
  l1 : Int
  r1 : Int
  w2 : Int
  l2 : Int
  r2 : Int
  every : Int
  limit : Int
/-- In memory. -/
structure GS (w : World) (b lo hi g qa : Nat) (q : CF) (M : MG) (rs : Nat → RQ) (vs : Nat → Value) (ra : RQ) (va : Value) (W : World) : Prop where
  mg : Mg W b lo hi M
  row : StR w.heap.size W g q.n rs vs
  box : RB W qa ra va
  la : LA W va ra.had
  cf : MB W w.heap.size (q.n : Int) q.w1 q.l1 q.r1 q.w2 q.l2 q.r2 q.every q.limit
  bel : Below w.heap.size w W
  h1 : w.heap.size < lo
  h2 : hi ≤ g
  h3 : g < qa
section
variable {w W W' : World} {b lo hi g qa : Nat} {q : CF} {M M' : MG} {rs : Nat → RQ} {vs : Nat → Value} {ra ra' : RQ} {va va' : Value}
theorem GS.below (h : GS w b lo hi g qa q M rs vs ra va W) (hb : Below W.heap.size W W') : GS w b lo hi g qa q M rs vs ra va W' :=
  ⟨h.mg.below hb, h.row.below hb, h.box.below hb, h.la.below hb, h.cf.below hb, h.bel.trans (hb.mono h.bel.size), h.h1, h.h2, h.h3⟩
theorem LA.butI {xs : List Int} {v : Value} (h : LA W v xs) (hb : ButI lo hi W W') : LA W' v xs := h.keep fun k cur fr hk => hb.ints k cur fr hk
theorem StR.butI {n : Nat} (h : StR w.heap.size W g n rs vs) (hb : ButI lo hi W W') (hg : hi ≤ g) : StR w.heap.size W' g n rs vs := by
  obtain ⟨⟨cs, h1, h2⟩, h3, h4, h5⟩ := h
  have e := hb.block g (lt_of_heap h1) (.inr hg)
  exact ⟨⟨cs, e.trans h1, h2⟩, fun k hk => range_keep (h3 k hk) e, fun k hk => (h4 k hk).butI hb, h5⟩
/-- The merge goes on. -/
theorem GS.inI (h : GS w b lo hi g qa q M rs vs ra va W) (hm : Mg W' b lo hi M') (hb : ButI lo hi W W') : GS w b lo hi g qa q M' rs vs ra va W' :=
  ⟨hm, h.row.butI hb h.h2, (hb.block qa h.box.lt (.inr (by have := h.h2; have := h.h3; omega))).trans h.box, h.la.butI hb, h.cf.butI hb (.inl h.h1), h.bel.trans (hb.below (Nat.le_of_lt h.h1) h.mg.top.1 (by have := h.mg.top; omega)), h.h1, h.h2, h.h3⟩
/-- A state of the row is written. -/
theorem GS.setR (h : GS w b lo hi g qa q M rs vs ra va W) {k : Nat} (hk : k < q.n) (r : RQ) (v : Value) (hl : LA W v r.had) : GS w b lo hi g qa q M (upd rs k r) (upd vs k v) ra va (W.setCells g (k * 13) (RA r v).toList) := by
  have hb := h.row.setB (k * 13) (RA r v).toList
  have hgl := h.row.lt
  have h2 := h.h2
  have h3 := h.h3
  have h1 := h.h1
  have ht := h.mg.top
  obtain ⟨cs, hc, _⟩ := h.row.row
  have ki : ∀ (b' : Nat) (cur : Array Value) (fr' : Nat × Nat), W.heap[b']? = some (.cells cur 3 fr') → (W.setCells g (k * 13) (RA r v).toList).heap[b']? = some (.cells cur 3 fr') := fun b' cur fr' hb' => (hb.block b' (lt_of_heap hb') (fun e2 => by
    rw [e2, hc] at hb'
    injection hb' with hb'
    injection hb' with _ h8 _
    exact absurd h8 (by decide))).trans hb'
  exact ⟨h.mg.keep hb.size (fun i hi1 hi2 => hb.block i (by omega) (by omega)), h.row.set hk r v hl, (hb.block qa h.box.lt (by omega)).trans h.box, h.la.keep ki, (hb.block _ h.cf.lt (by omega)).trans h.cf, h.bel.trans (hb.below (by omega) hgl), h.h1, h.h2, h.h3⟩
/-- The reference's state of all is written. -/
theorem GS.setA (h : GS w b lo hi g qa q M rs vs ra va W) (hl : LA W va' ra'.had) : GS w b lo hi g qa q M rs vs ra' va' (W.setRow qa (RA ra' va')) := by
  have h2 := h.h2
  have h3 := h.h3
  have h1 := h.h1
  have ht := h.mg.top
  have hgl := h.row.lt
  have ki : ∀ (b' : Nat) (cur : Array Value) (fr' : Nat × Nat), W.heap[b']? = some (.cells cur 3 fr') → (W.setRow qa (RA ra' va')).heap[b']? = some (.cells cur 3 fr') := fun b' cur fr' hb' => (setRow_other W qa b' _ (fun e2 => by
    have hx := h.box
    unfold RB at hx
    rw [e2, hx] at hb'
    injection hb' with hb'
    injection hb' with _ h8 _
    exact absurd h8 (by decide))).trans hb'
  have hbel := below_setRow h.bel (g := qa) (by omega) (RA ra' va')
  have eg := setRow_other W qa g (RA ra' va') (by omega)
  obtain ⟨⟨cs, r1, r2⟩, r3, r4, r5⟩ := h.row
  exact ⟨h.mg.keep (by rw [show (W.setRow qa (RA ra' va')).heap.size = W.heap.size by simp [World.setRow]]; exact Nat.le_refl _) (fun i hi1 hi2 => setRow_other W qa i _ (by omega)), ⟨⟨cs, eg.trans r1, r2⟩, fun k hk => range_keep (r3 k hk) eg, fun k hk => (r4 k hk).keep ki, r5⟩, setRow_heap _ _ _ _ _ _ h.box, hl.keep ki, (setRow_other W qa _ _ (by omega)).trans h.cf, hbel, h.h1, h.h2, h.h3⟩
theorem GS.alloc (h : GS w b lo hi g qa q M rs vs ra va W) (o : Obj) : GS w b lo hi g qa q M rs vs ra va (W.alloc o) := h.below (bAl (bRef W) o)
end

/-- In plain numbers. -/
structure GP (q : CF) (k : Nat) (M : MG) (rs : Nat → RQ) (ra : RQ) (next passed again silent : Int) : Prop where
  good : M.Good
  n_ : M.n = q.n
  ev : M.every = q.every
  li : M.limit = q.limit
  one : ∀ i, i < q.n → RR (M.ones i) (rs i) ∧ (rs i).had.length ≤ k + 1
  all : RR M.all ra ∧ ra.had.length ≤ k + 1
  sh : M.short = passed * ((q.n : Int) - 1) - again
  nx : next = M.last + M.every
  sl : M.silent = silent
  p0 : 0 ≤ passed
  p1 : passed ≤ k
  a0 : 0 ≤ again
  a1 : again ≤ k
  s0 : 0 ≤ silent
  s1 : silent ≤ k
  t0 : 0 ≤ M.last
  t1 : M.last ≤ 1099511627776
  e1 : 1 ≤ M.every
  e2 : M.every ≤ 1099511627776
section
variable {q : CF} {k : Nat} {M : MG} {rs : Nat → RQ} {ra : RQ} {next passed again silent : Int}
theorem GP.more (h : GP q k M rs ra next passed again silent) : GP q (k + 1) M rs ra next passed again silent := by
  obtain ⟨h1, h2, h3, h4, h5, h6, h7, h8, h9, p0, p1, a0, a1, s0, s1, t0, t1, e1, e2⟩ := h
  exact ⟨h1, h2, h3, h4, fun i hi => ⟨(h5 i hi).1, by have := (h5 i hi).2; omega⟩, ⟨h6.1, by have := h6.2; omega⟩, h7, h8, h9, p0, by omega, a0, by omega, s0, by omega, t0, t1, e1, e2⟩
/-- A look that is due. -/
theorem GP.look (h : GP q k M rs ra next passed again silent) (hk : k ≤ 100) {z : Int} (hd : M.due z) : GP q (k + 1) (M.looked z) rs ra (z + q.every) 0 0 (if q.limit < M.short then silent + 1 else silent) := by
  obtain ⟨h1, h2, h3, h4, h5, h6, h7, h8, h9, p0, p1, a0, a1, s0, s1, t0, t1, e1, e2⟩ := h
  unfold MG.due at hd
  have es : (M.looked z).silent = (if q.limit < M.short then silent + 1 else silent) := by
    unfold MG.looked
    simp only
    rw [h4, h9]
    split
    · unfold wrap64; omega
    · rfl
  have hs : 0 ≤ (if q.limit < M.short then silent + 1 else silent) ∧ (if q.limit < M.short then silent + 1 else silent) ≤ ((k + 1 : Nat) : Int) := by split <;> omega
  refine ⟨⟨h1.n1, h1.n8, h1.ones, h1.all⟩, h2, h3, h4, fun i hi => ⟨(h5 i hi).1, by have := (h5 i hi).2; omega⟩, ⟨h6.1, by have := h6.2; omega⟩, ?_, ?_, es, by omega, by omega, by omega, by omega, hs.1, hs.2, ?_, ?_, e1, e2⟩
  · show (0 : Int) = 0 * ((q.n : Int) - 1) - 0
    omega
  · show z + q.every = z + M.every
    rw [h3]
  · show 0 ≤ z
    omega
  · exact hd.2
/-- The law's sum, as it reckons it. -/
theorem GP.sum (h : GP q k M rs ra next passed again silent) (hk : k ≤ 100) : wrap64 ((q.n : Int) - 1) = (q.n : Int) - 1 ∧ wrap64 (passed * ((q.n : Int) - 1)) = passed * ((q.n : Int) - 1) ∧ wrap64 (passed * ((q.n : Int) - 1) - again) = M.short := by
  have n1 := h.good.n1
  have n8 := h.good.n8
  rw [h.n_] at n1 n8
  have p0 := h.p0
  have p1 := h.p1
  have b1 : 0 ≤ passed * ((q.n : Int) - 1) := Int.mul_nonneg p0 (by omega)
  have b2 : passed * ((q.n : Int) - 1) ≤ 100 * 7 := Int.mul_le_mul (by omega) (by omega) (by omega) (by omega)
  have a0 := h.a0
  have a1 := h.a1
  rw [h.sh]
  generalize passed * ((q.n : Int) - 1) = P at *
  unfold wrap64
  omega
end
def GRel (w : World) (b lo hi g qa : Nat) (q : CF) (N : Nat) (nv pv av sv kv : Value) (W : World) : Prop :=
  ∃ (k : Nat) (M : MG) (rs : Nat → RQ) (vs : Nat → Value) (ra : RQ) (va : Value) (next passed again silent : Int), nv = .int .i64 next ∧ pv = .int .i64 passed ∧ av = .int .i64 again ∧ sv = .int .i64 silent ∧ kv = .int .i64 (k : Int) ∧ k ≤ N ∧
    GS w b lo hi g qa q M rs vs ra va W ∧ GP q k M rs ra next passed again silent
theorem StR.mono {B B' g n : Nat} {W : World} {rs : Nat → RQ} {vs : Nat → Value} (h : StR B W g n rs vs) (hB : B' ≤ B) : StR B' W g n rs vs := ⟨h.row, h.at_, h.la, Nat.le_trans hB h.hg⟩
theorem GP.start {n : Nat} {w1 l1 r1 w2 l2 r2 every limit now : Int} (ho : okM (n : Int) w1 l1 r1 w2 l2 r2 every limit) (h0 : 0 ≤ now) (h1 : now ≤ 1099511627776) :
    GP ⟨n, w1, l1, r1, w2, l2, r2, every, limit⟩ 0 (M0 n every limit now (Q0 w1 l1 r1 now) (Q0 w2 l2 r2 now)) (fun _ => R0 w1 l1 r1 now) (R0 w2 l2 r2 now) (now + every) 0 0 0 := by
  obtain ⟨⟨a1, a2⟩, ⟨a3, a4⟩, ⟨a5, a6⟩, o1, o2⟩ := ho
  exact ⟨M0_good (by omega) (by omega) (Q0_good o1 (by omega) (by omega)) (Q0_good o2 (by omega) (by omega)), rfl, rfl, rfl, fun i _ => ⟨RR.start, by show (0 : Nat) ≤ 0 + 1; omega⟩, ⟨RR.start, by show (0 : Nat) ≤ 0 + 1; omega⟩, by show (0 : Int) = 0 * ((n : Int) - 1) - 0; omega, rfl, rfl, by omega, by omega, by omega, by omega, by omega, by omega, h0, h1, a3, a4⟩
end Go.Proofs.Ytnkblihdgfhcdaa
