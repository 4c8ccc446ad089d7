/- A port, lanes beside it, and boxes that are neither's. -/
import Derived.Test.YtlpijhopllhccaaPoRef6
namespace Go.Proofs.Ytlpijhopllhccaa
open Go.RowKit Go.Joins

def NoSlot (W : World) (j : Nat) : Prop := ∃ cs T fr, W.heap[j]? = some (.cells cs T fr) ∧ T ≠ 64
section
variable {w0 W W' W0 : World} {k L b : Nat} {F F' G X : Nat → Prop} {p p' : PL} {s s' t t' : LS}
/-- Boxes that are none of the port's are written. -/
theorem PoL.others (h : PoL w0 W k L F p s) (hX : ∀ j, X j → NoSlot W j ∧ j ≠ k ∧ ¬ F j ∧ w0.heap.size ≤ j) (hb : ButP X W W') : PoL w0 W' k L F p s := by
  obtain ⟨q, hq⟩ := h.gs
  have ne : ∀ {v : Value} {ts : List (Int × Int)}, (0 < ts.length → Tag W v) → 0 < ts.length → ∀ j, v.ownBlock = some j → ¬ X j := fun ht h0 j e hx => by
    obtain ⟨⟨cs, T, fr, h1, h2⟩, _⟩ := hX j hx
    obtain ⟨cur, hc⟩ := ht h0 j e
    rw [h1] at hc
    injection hc with hc
    injection hc with _ hc _
    exact h2 hc
  have one : ∀ {v : Value} {ts : List (Int × Int)}, TArg W v ts → (0 < ts.length → Tag W v) → TArg W' v ts := fun ha ht => ha.keep hb.size fun h0 j e => hb.block j (ha.lt h0 e) (ne ht h0 j e)
  have tag : ∀ {v : Value} {ts : List (Int × Int)}, TArg W v ts → (0 < ts.length → Tag W v) → (0 < ts.length → Tag W' v) := fun ha ht h0 j e => by
    obtain ⟨cur, hc⟩ := ht h0 j e
    exact ⟨cur, (hb.block j (ha.lt h0 e) (ne ht h0 j e)).trans hc⟩
  obtain ⟨⟨sl, hi⟩, l2, l3⟩ := h.ln
  exact ⟨⟨q, (hb.block k hq.klt (fun e => (hX k e).2.1 rfl)).trans hq.gt, hq.sl, hq.e1, hq.e2, hq.e3, hq.e4, hq.e5, hq.e6, one hq.a1 hq.y1, one hq.a2 hq.y2, hq.n1, hq.n2, tag hq.a1 hq.y1, tag hq.a2 hq.y2⟩,
    ⟨⟨sl, hi.but hb fun j hj hx => (hX j hx).2.2.1 hj⟩, l2, l3.trans (hb.below (fun j hx => (hX j hx).2.2.2) l3.size)⟩, h.kF, h.low, h.fine, h.gd, h.ok⟩
theorem LnB.but (h : LnB w0 W b G t) (hb : ButP X W W') (hd : ∀ j, G j → ¬ X j) (hl : ∀ j, X j → w0.heap.size ≤ j) : LnB w0 W' b G t := by
  obtain ⟨⟨sl, hi⟩, l2, l3⟩ := h
  exact ⟨⟨sl, hi.but hb hd⟩, l2, l3.trans (hb.below hl l3.size)⟩
/-- Only the blocks that the lanes' rows lie in. -/
theorem LnB.shrink (h : LnB w0 W b G t) : ∃ G', LnB w0 W b G' t ∧ (∀ j, G' j → G j) ∧ ∀ j, G' j → NoSlot W j := by
  obtain ⟨⟨sl, hi⟩, l2, l3⟩ := h
  have hrow : ∀ c, c < 8 → ∀ j, (sl c).ownBlock = some j → G j ∧ NoSlot W j := fun c hc j e => by
    obtain ⟨h1, cur, h2⟩ := (hi.q c hc).tag e
    exact ⟨h1, cur, _, _, h2, by decide⟩
  have hsub : ∀ j, (j = b ∨ ∃ c, c < 8 ∧ (sl c).ownBlock = some j) → G j := fun j hj => by
    rcases hj with rfl | ⟨c, hc, e⟩
    · exact hi.fb
    · exact (hrow c hc j e).1
  refine ⟨fun j => j = b ∨ ∃ c, c < 8 ∧ (sl c).ownBlock = some j, ⟨⟨sl, ⟨hi.box, fun c hc => ?_, hi.dis, .inl rfl, fun j hj => hi.top j (hsub j hj)⟩⟩, fun j hj => l2 j (hsub j hj), l3⟩, hsub, fun j hj => ?_⟩
  · rcases hi.q c hc with h | ⟨g, o, cap, cur, h1, h2, h3⟩
    · exact .inl h
    · exact .inr ⟨g, o, cap, cur, h1, .inr ⟨c, hc, by rw [h1]; rfl⟩, h3⟩
  · rcases hj with rfl | ⟨c, hc, e⟩
    · exact ⟨_, _, _, hi.box, by decide⟩
    · exact (hrow c hc j e).2
structure RS2 (w0 W : World) (k L : Nat) (F : Nat → Prop) (p : PL) (s : LS) (b : Nat) (G : Nat → Prop) (t : LS) (X : Nat → Prop) : Prop where
  pl : PoL w0 W k L F p s
  ln : LnB w0 W b G t
  gd : t.Good
  ok : okR t.r 8
  dG : ∀ j, G j → j ≠ k ∧ ¬ F j ∧ ¬ X j
  dX : ∀ j, X j → j ≠ k ∧ ¬ F j ∧ j < W.heap.size ∧ w0.heap.size ≤ j
/-- The boxes stay. -/
def Kept (X : Nat → Prop) (W W' : World) : Prop := ∀ j, X j → W'.heap[j]? = W.heap[j]?
/-- The state with some blocks. -/
def RT (w0 : World) (k L : Nat) (p : PL) (s : LS) (b : Nat) (t : LS) (X : Nat → Prop) (W : World) : Prop := ∃ F G, RS2 w0 W k L F p s b G t X
theorem RS2.bel (h : RS2 w0 W k L F p s b G t X) : Below w0.heap.size w0 W := h.pl.bel
theorem RT.bel (h : RT w0 k L p s b t X W) : Below w0.heap.size w0 W := by obtain ⟨F, G, h⟩ := h; exact h.bel
theorem RS2.below (h : RS2 w0 W k L F p s b G t X) (hb : Below W.heap.size W W') : RS2 w0 W' k L F p s b G t X :=
  ⟨h.pl.below hb, h.ln.below hb, h.gd, h.ok, h.dG, fun j hj => ⟨(h.dX j hj).1, (h.dX j hj).2.1, Nat.lt_of_lt_of_le (h.dX j hj).2.2.1 hb.size, (h.dX j hj).2.2.2⟩⟩
theorem RT.below (h : RT w0 k L p s b t X W) (hb : Below W.heap.size W W') : RT w0 k L p s b t X W' := by obtain ⟨F, G, h⟩ := h; exact ⟨F, G, h.below hb⟩
theorem RT.keptB (h : RT w0 k L p s b t X W) (hb : Below W.heap.size W W') : Kept X W W' := by obtain ⟨F, G, h⟩ := h; exact fun j hj => hb.block j (h.dX j hj).2.2.1
theorem RT.xlt (h : RT w0 k L p s b t X W) {j : Nat} (hj : X j) : j < W.heap.size := by obtain ⟨F, G, h⟩ := h; exact (h.dX j hj).2.2.1
theorem RT.xlow (h : RT w0 k L p s b t X W) {j : Nat} (hj : X j) : w0.heap.size ≤ j := by obtain ⟨F, G, h⟩ := h; exact (h.dX j hj).2.2.2
theorem RT.klow (h : RT w0 k L p s b t X W) : w0.heap.size ≤ k := by obtain ⟨F, G, h⟩ := h; exact h.pl.low
theorem RT.sub {Y : Nat → Prop} (h : RT w0 k L p s b t X W) (hy : ∀ j, Y j → X j) : RT w0 k L p s b t Y W := by
  obtain ⟨F, G, h⟩ := h
  exact ⟨F, G, h.pl, h.ln, h.gd, h.ok, fun j hj => ⟨(h.dG j hj).1, (h.dG j hj).2.1, fun e => (h.dG j hj).2.2 (hy j e)⟩, fun j hj => h.dX j (hy j hj)⟩
/-- A new box is one of them. -/
theorem RT.box (h : RT w0 k L p s b t X W) (o : Obj) : RT w0 k L p s b t (fun j => X j ∨ j = W.heap.size) (W.alloc o) := by
  obtain ⟨F, G, h⟩ := h
  have hb := bAl (bRef W) o
  have h' := h.below hb
  obtain ⟨sl, hi⟩ := h.pl.ln.ln
  obtain ⟨sl2, hi2⟩ := h.ln.ln
  refine ⟨F, G, h'.pl, h'.ln, h'.gd, h'.ok, fun j hj => ⟨(h.dG j hj).1, (h.dG j hj).2.1, fun e => ?_⟩, fun j hj => ?_⟩
  · rcases e with e | e
    · exact (h.dG j hj).2.2 e
    · have := hi2.top j hj
      omega
  · rcases hj with e | rfl
    · exact h'.dX j e
    · refine ⟨by have := h.pl.klt; omega, fun e => by have := hi.top _ e; omega, by simp, h.bel.size⟩
/-- They are written. -/
theorem RT.set {Y : Nat → Prop} (h : RT w0 k L p s b t X W) (hY : ∀ j, Y j → X j ∧ NoSlot W j) (hb : ButP Y W W') : RT w0 k L p s b t X W' := by
  obtain ⟨F, G, h⟩ := h
  refine ⟨F, G, h.pl.others (X := Y) (fun j hj => ?_) hb, h.ln.but hb (fun j hj e => (h.dG j hj).2.2 (hY j e).1) (fun j hj => (h.dX j (hY j hj).1).2.2.2), h.gd, h.ok, h.dG, fun j hj => ⟨(h.dX j hj).1, (h.dX j hj).2.1, Nat.lt_of_lt_of_le (h.dX j hj).2.2.1 hb.size, (h.dX j hj).2.2.2⟩⟩
  obtain ⟨hx, hn⟩ := hY j hj
  exact ⟨hn, (h.dX j hx).1, (h.dX j hx).2.1, (h.dX j hx).2.2.2⟩
/-- The port was turned. -/
theorem RS2.port (h : RS2 w0 W k L F p s b G t X) (hl : PLeft w0 W k L F p' s' W') : RT w0 k L p' s' b t X W' ∧ Kept X W W' := by
  obtain ⟨F', h1, h2, h3⟩ := hl
  obtain ⟨sl2, hi2⟩ := h.ln.ln
  refine ⟨⟨F', G, h1, h.ln.but h3 (fun j hj e => e.elim (h.dG j hj).1 (h.dG j hj).2.1) (fun j hj => ?_), h.gd, h.ok, fun j hj => ⟨(h.dG j hj).1, fun e => ?_, (h.dG j hj).2.2⟩, fun j hj => ⟨(h.dX j hj).1, fun e => ?_, Nat.lt_of_lt_of_le (h.dX j hj).2.2.1 h3.size, (h.dX j hj).2.2.2⟩⟩, fun j hj => h3.block j (h.dX j hj).2.2.1 (fun e => e.elim (h.dX j hj).1 (h.dX j hj).2.1)⟩
  · rcases hj with rfl | e
    · exact h.pl.low
    · exact h.pl.ln.low j e
  · rcases h2 j e with e | e
    · exact (h.dG j hj).2.1 e
    · have := hi2.top j hj
      omega
  · rcases h2 j e with e | e
    · exact (h.dX j hj).2.1 e
    · have := (h.dX j hj).2.2.1
      omega
/-- The lanes beside it were turned. -/
theorem RT.lanes {f : Nat} {args : Array Value} {v : Value} (h : RT w0 k L p s b t X W) (hg : t'.Good) (ho : t'.r = t.r) (hc : ∀ G, LnB w0 W b G t → t.Good → Calls Try.prog f args W fun e w' => e = .returned v ∧ Left w0 W b G t' w') :
    Calls Try.prog f args W fun e w' => e = .returned v ∧ RT w0 k L p s b t' X w' ∧ Kept X W w' := by
  obtain ⟨F, G, h⟩ := h
  obtain ⟨G', g1, g2, g3⟩ := h.ln.shrink
  refine (hc G' g1 h.gd).mono fun e w' hh => ?_
  obtain ⟨e1, G2, l1, l2, l3⟩ := hh
  obtain ⟨sl, hi⟩ := h.pl.ln.ln
  refine ⟨e1, ⟨F, G2, h.pl.others (X := G') (fun j hj => ⟨g3 j hj, (h.dG j (g2 j hj)).1, (h.dG j (g2 j hj)).2.1, g1.low j hj⟩) l3, l1, hg, by rw [ho]; exact h.ok, fun j hj => ?_, fun j hj => ⟨(h.dX j hj).1, (h.dX j hj).2.1, Nat.lt_of_lt_of_le (h.dX j hj).2.2.1 l3.size, (h.dX j hj).2.2.2⟩⟩, fun j hj => l3.block j (h.dX j hj).2.2.1 (fun e => (h.dG j (g2 j e)).2.2 hj)⟩
  rcases l2 j hj with e | e
  · exact h.dG j (g2 j e)
  · exact ⟨by have := h.pl.klt; omega, fun e9 => by have := hi.top j e9; omega, fun e9 => by have := (h.dX j e9).2.2.1; omega⟩
theorem rt_pput (h : RT w0 k L p s b t X W) (c x0 x1 : Int) (x2 : Bool) : Calls Try.prog 13 #[PP k, .int .i64 c, .agg #[.int .i64 x0, .int .i64 x1, .bool x2]] W fun e w' => e = .returned (.int .i64 (s.pute c (x0, x1, x2))) ∧ RT w0 k L p (s.put c (x0, x1, x2)) b t X w' ∧ Kept X W w' := by
  obtain ⟨F, G, h⟩ := h
  exact (pput h.pl c x0 x1 x2).mono fun e w' hh => ⟨hh.1, h.port hh.2⟩
theorem rt_qput (h : RT w0 k L p s b t X W) (hg : t.Good) (ho : okR t.r 8) (c x0 x1 : Int) (x2 : Bool) : Calls Try.prog 19 #[PP b, .int .i64 c, .agg #[.int .i64 x0, .int .i64 x1, .bool x2]] W fun e w' => e = .returned (.int .i64 (t.pute c (x0, x1, x2))) ∧ RT w0 k L p s b (t.put c (x0, x1, x2)) X w' ∧ Kept X W w' :=
  h.lanes (hg.put ho c (x0, x1, x2)) (put_r t c (x0, x1, x2)) fun _ h1 h2 => putB h1 h2 c (x0, x1, x2)
theorem rt_pnext (h : RT w0 k L p s b t X W) (x : Int) (hx : inNow x) {cv i0 i1 : Int} {i2 ok : Bool} (hk : Picks L s (leftOf p x) cv (i0, i1, i2) ok s') : Calls Try.prog 11 #[PP k, .int .i64 x] W fun e w' => e = .returned (.tuple #[.agg #[.int .i64 i0, .int .i64 i1, .bool i2], .int .i64 cv, .bool ok]) ∧ RT w0 k L (p.turn x) s' b t X w' ∧ Kept X W w' := by
  obtain ⟨F, G, h⟩ := h
  exact (pnext_gen h.pl h.bel.size x hx hk).mono fun e w' hh => ⟨hh.1, h.port hh.2⟩
theorem rt_qpick (h : RT w0 k L p s b t X W) {left : Nat → Int} {cv i0 i1 : Int} {i2 ok : Bool} (hk : Picks b t left cv (i0, i1, i2) ok t') (hg : t.Good) : Calls Try.prog 22 #[PP b, a8 left] W fun e w' => e = .returned (.tuple #[.int .i64 cv, .agg #[.int .i64 i0, .int .i64 i1, .bool i2], .bool ok]) ∧ RT w0 k L p s b t' X w' ∧ Kept X W w' :=
  h.lanes (hk.2.1 hg) hk.2.2 fun _ h1 h2 => hk.1 _ _ _ h1 h2
theorem rt_pchange (h : RT w0 k L p s b t X W) (bb c : Int) (sl : Value) (ts : List (Int × Int)) (ht : TArg W sl ts) (hne : 0 < ts.length → sl.ownBlock ≠ some k) (hz : chkV bb c ts = 0) (x : Int) (hx : inNow x) : Calls Try.prog 14 #[PP k, LV bb c sl, .int .i64 x] W fun e w' => e = .returned (.int .i64 0) ∧ RT w0 k L (p.chg bb c ts x) s b t X w' ∧ Kept X W w' := by
  obtain ⟨F, G, h⟩ := h
  exact (pchange_ok h.pl bb c sl ts ht hne hz x hx).mono fun e w' hh => ⟨hh.1, h.port hh.2⟩
theorem rt_pchange_bad (h : RT w0 k L p s b t X W) (bb c : Int) (sl : Value) (ts : List (Int × Int)) (ht : TArg W sl ts) (hz : chkV bb c ts ≠ 0) (x : Int) : Calls Try.prog 14 #[PP k, LV bb c sl, .int .i64 x] W fun e w' => e = .returned (.int .i64 (chkV bb c ts)) ∧ RT w0 k L p s b t X w' ∧ Kept X W w' := by
  have h' := h
  obtain ⟨F, G, h⟩ := h
  exact (pchange_bad h.pl bb c sl ts ht hz x).mono fun e w' hh => ⟨hh.1, h'.below hh.2, h'.keptB hh.2⟩
theorem rt_plen (h : RT w0 k L p s b t X W) (c : Int) : Calls Try.prog 16 #[PP k, .int .i64 c] W fun e w' => e = .returned (.int .i64 (s.len c)) ∧ w' = W := by obtain ⟨F, G, h⟩ := h; exact plen h.pl c
theorem rt_plost (h : RT w0 k L p s b t X W) (c : Int) : Calls Try.prog 17 #[PP k, .int .i64 c] W fun e w' => e = .returned (.int .i64 (s.lostn c)) ∧ w' = W := by obtain ⟨F, G, h⟩ := h; exact plost h.pl c
theorem rt_qlen (h : RT w0 k L p s b t X W) (c : Int) : Calls Try.prog 24 #[PP b, .int .i64 c] W fun e w' => e = .returned (.int .i64 (t.len c)) ∧ w' = W := by obtain ⟨F, G, h⟩ := h; exact lenB h.ln c
theorem rt_qlost (h : RT w0 k L p s b t X W) (c : Int) : Calls Try.prog 25 #[PP b, .int .i64 c] W fun e w' => e = .returned (.int .i64 (t.lostn c)) ∧ w' = W := by obtain ⟨F, G, h⟩ := h; exact lostB h.ln c
end

end Go.Proofs.Ytlpijhopllhccaa
