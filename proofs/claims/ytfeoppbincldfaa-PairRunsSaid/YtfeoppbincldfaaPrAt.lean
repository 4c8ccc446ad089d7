/- Package pair: At, Root, Tell. -/
import Derived.Test.YtfeoppbincldfaaPrOps
namespace Go.Proofs.Ytfeoppbincldfaa
open Go.RowKit Go.Joins

theorem ctell_nil (q sr po x : Int) (w : World) : Calls Try.prog 31 #[.pointer none, .int .i64 q, .int .i64 sr, .int .i64 po, .int .i64 x] w fun e w' => e = .returned (.tuple #[.agg ZC, .bool false]) ∧ Below w.heap.size w w' := by
  have HB2 := Lib.hid (bAl (bRef w) (.cells #[.int .i64 0, .int .i64 0, .int .i64 0, .int .i64 0, .int .i64 0, .int .i64 0, .int .i64 0, .int .i64 0, .int .i64 0, .int .i64 0, .int .i64 0, .int .i64 0, .int .i64 0, .int .i64 0, .int .i64 0, .slice none 0 0] 37))
  have HZ2 := Lib.hid (heap_alloc_new w (.cells #[.int .i64 0, .int .i64 0, .int .i64 0, .int .i64 0, .int .i64 0, .int .i64 0, .int .i64 0, .int .i64 0, .int .i64 0, .int .i64 0, .int .i64 0, .int .i64 0, .int .i64 0, .int .i64 0, .int .i64 0, .slice none 0 0] 37))
  go_enter Try.func31, Try.ntmps31
  go_wp2_with (first
    | (go_at_call 25; (with_reducible refine (nil_at x _).mono ?_); rintro e w1 ⟨rfl, rfl⟩)
    | ((with_reducible refine at_buildZ ?_); refine wpList_buildZ rfl rfl ?_)
    | ((with_reducible refine at_storeM ?_); refine wpList_storeM rfl _ _ rfl w.heap.size ZC rfl rfl (by simp [ZC, Value.oneCell']) rfl _ HZ2.out rfl ?_))
  refine bodyM2 rfl w.heap.size ZC _ rfl rfl (setRow_heap _ _ _ _ _ _ HZ2.out) rfl rfl ?_
  exact ⟨rfl, below_setRow HB2.out (Nat.le_refl _) _⟩
section
variable {w : World} {p k0 k1 : Nat} {s : PP}
/-- The time that holds. -/
def PP.atS (s : PP) (x : Int) : PP := (s.held x).picked x
def PP.atT (s : PP) (x : Int) : Int := if (s.atS x).last = 0 then (s.atS x).a.time x else if (s.atS x).last = 1 then (s.atS x).b.time x else 0
def PP.atB (s : PP) (x : Int) : Bool := if (s.atS x).last = 0 then (s.atS x).a.tells x else if (s.atS x).last = 1 then (s.atS x).b.tells x else false
theorem PP.Ok.atS (hs : s.Ok) {x : Int} (hx : In64 x) : (s.atS x).Ok := (hs.held hx).picked x
theorem pat_any (h : Pw w p k0 k1 s) (hs : s.Ok) {x : Int} (hx : In64 x) : Calls Try.prog 16 #[.pointer (some ⟨p, 0, none⟩), .int .i64 x] w fun e w' => e = .returned (.tuple #[.int .i64 (s.atT x), .bool (s.atB x)]) ∧ LeaveP p k0 k1 w (s.atS x) w' := by
  have HH := Lib.hid (phold_any h hs hx)
  have HP := Lib.hid (fun W (h : Pw W p k0 k1 (s.held x)) => pick_any h (hs.held hx) hx)
  have hl := (hs.atS hx).last
  have el : (s.held x).held1 x = (s.atS x).last := rfl
  have ho := hs.atS hx
  rw [el] at HP
  change Hid (∀ W, Pw W p k0 k1 (s.held x) → Calls Try.prog 18 #[.pointer (some ⟨p, 0, none⟩), .int .i64 x] W fun e w' => e = .returned (.int .i64 (s.atS x).last) ∧ LeaveP p k0 k1 W (s.atS x) w') at HP
  unfold PP.atT PP.atB
  generalize s.atS x = t at *
  clear el
  rcases hl with hl | hl | hl
  · rw [hl, if_neg (by decide), if_neg (by decide), if_neg (by decide), if_neg (by decide)]
    rw [hl] at HP
    clear ho hl h hs
    go_enter Try.func16, Try.ntmps16
    go_wp2_with (first
      | (go_at_call 44; (with_reducible refine (HH.out).mono ?_); rintro e w1 ⟨rfl, h1, b1⟩; have H1 := Lib.hid h1; have B1 := Lib.hid b1; clear h1 b1)
      | (go_at_call 18; (with_reducible refine (HP.out _ H1.out).mono ?_); rintro e w2 ⟨rfl, h1, b1⟩; have H2 := Lib.hid h1; have B2 := Lib.hid (B1.out.trans b1); clear h1 b1)
      | (go_at_call 43; (with_reducible refine (clock_out p _ (d := -1) rfl).mono ?_); rintro e w3 ⟨rfl, rfl⟩)
      | (go_at_call 25; (with_reducible refine (nil_at x _).mono ?_); rintro e w3 ⟨rfl, rfl⟩))
    go_ret2
    exact ⟨rfl, H2.out, B2.out⟩
  · rw [hl, if_pos rfl, if_pos rfl]
    have HA := Lib.hid (fun W (h : Ck W k0 t.a) => at_any h ho.a hx)
    rw [hl] at HP
    clear ho hl h hs
    generalize t.a.time x = tm at *
    generalize t.a.tells x = tl at *
    go_enter Try.func16, Try.ntmps16
    go_wp2_with (first
      | (go_at_call 44; (with_reducible refine (HH.out).mono ?_); rintro e w1 ⟨rfl, h1, b1⟩; have H1 := Lib.hid h1; have B1 := Lib.hid b1; clear h1 b1)
      | (go_at_call 18; (with_reducible refine (HP.out _ H1.out).mono ?_); rintro e w2 ⟨rfl, h1, b1⟩; have H2 := Lib.hid h1; have B2 := Lib.hid (B1.out.trans b1); clear h1 b1)
      | (go_at_call 43; (with_reducible refine (clock_zero H2.out).mono ?_); rintro e w3 ⟨rfl, rfl⟩)
      | (go_at_call 25; (with_reducible refine (HA.out _ H2.out.c0).mono ?_); rintro e w4 ⟨rfl, hb⟩; have H4 := Lib.hid (H2.out.below hb); have B4 := Lib.hid (B2.out.trans (ButS.of_below hb)); clear hb))
    go_ret2
    exact ⟨rfl, H4.out, B4.out⟩
  · rw [hl, if_neg (by decide), if_pos rfl, if_neg (by decide), if_pos rfl]
    have HA := Lib.hid (fun W (h : Ck W k1 t.b) => at_any h ho.b hx)
    rw [hl] at HP
    clear ho hl h hs
    generalize t.b.time x = tm at *
    generalize t.b.tells x = tl at *
    go_enter Try.func16, Try.ntmps16
    go_wp2_with (first
      | (go_at_call 44; (with_reducible refine (HH.out).mono ?_); rintro e w1 ⟨rfl, h1, b1⟩; have H1 := Lib.hid h1; have B1 := Lib.hid b1; clear h1 b1)
      | (go_at_call 18; (with_reducible refine (HP.out _ H1.out).mono ?_); rintro e w2 ⟨rfl, h1, b1⟩; have H2 := Lib.hid h1; have B2 := Lib.hid (B1.out.trans b1); clear h1 b1)
      | (go_at_call 43; (with_reducible refine (clock_one H2.out).mono ?_); rintro e w3 ⟨rfl, rfl⟩)
      | (go_at_call 25; (with_reducible refine (HA.out _ H2.out.c1).mono ?_); rintro e w4 ⟨rfl, hb⟩; have H4 := Lib.hid (H2.out.below hb); have B4 := Lib.hid (B2.out.trans (ButS.of_below hb)); clear hb))
    go_ret2
    exact ⟨rfl, H4.out, B4.out⟩
/-- The own clock is a domain's best, or not any more. -/
def PP.rooted (s : PP) (d : Int) (on : Bool) (x : Int) : PP :=
  if d = 0 then { s with a := s.a.owned on x } else if d = 1 then { s with b := s.b.owned on x, root := on } else s
theorem owned_dom (c : CS) (on : Bool) (x : Int) : (c.owned on x).dom = c.dom := by
  unfold CS.owned
  split
  · rfl
  · split <;> rfl
theorem PP.Ok.rooted (hs : s.Ok) (d : Int) (on : Bool) {x : Int} (hx : In64 x) : (s.rooted d on x).Ok := by
  unfold PP.rooted
  split
  · exact ⟨hs.a.owned on hx, hs.b, (owned_dom _ _ _).trans hs.da, hs.db, hs.most, hs.last⟩
  split
  · exact ⟨hs.a, hs.b.owned on hx, hs.da, (owned_dom _ _ _).trans hs.db, hs.most, hs.last⟩
  · exact hs
theorem root_any (h : Pw w p k0 k1 s) (hs : s.Ok) (d : Int) (on : Bool) {x : Int} (hx : In64 x) : Calls Try.prog 15 #[.pointer (some ⟨p, 0, none⟩), .int .i64 d, .bool on, .int .i64 x] w fun e w' => e = .returned (.tuple #[]) ∧ LeaveP p k0 k1 w (s.rooted d on x) w' := by
  unfold PP.rooted
  have H := Lib.hid h
  by_cases h0 : d = 0
  · subst h0
    rw [if_pos rfl]
    have HO := Lib.hid (own_any h.c0 hs.a on hx)
    clear h hs
    go_enter Try.func15, Try.ntmps15
    go_wp2_with (first
      | (go_at_call 43; (with_reducible refine (clock_zero H.out).mono ?_); rintro e w1 ⟨rfl, rfl⟩)
      | (go_at_call 30; (with_reducible refine (HO.out).mono ?_); rintro e w2 ⟨rfl, hl⟩; have H2 := Lib.hid (H.out.turn0 hl); have B2 := Lib.hid (ButS.of_but (L := [p, k0, k1]) hl.2 m1); clear hl))
    go_end0
    exact ⟨rfl, H2.out, B2.out⟩
  by_cases h1 : d = 1
  · subst h1
    rw [if_neg (by decide), if_pos rfl]
    have fz := h.fz
    have c3 := h.p3
    have HX := Lib.hid (h.set 3 (.bool on) (s' := { s with root := on }) rfl rfl rfl)
    have BX := Lib.hid (ButS.of_but (L := [p, k0, k1]) (set_but (ButB.refl p w) 3 (.bool on)) m0)
    have HO := Lib.hid (own_any HX.out.c1 hs.b on hx)
    clear h hs
    go_enter Try.func15, Try.ntmps15
    go_wp2_with (first
      | (go_at_call 43; (with_reducible refine (clock_one HX.out).mono ?_); rintro e w1 ⟨rfl, rfl⟩)
      | (go_at_call 30; (with_reducible refine (HO.out).mono ?_); rintro e w2 ⟨rfl, hl⟩; have H2 := Lib.hid (HX.out.turn1 hl); have B2 := Lib.hid (BX.out.trans (ButS.of_but (L := [p, k0, k1]) hl.2 m2)); clear hl))
    go_end0
    exact ⟨rfl, H2.out, B2.out⟩
  · rw [if_neg h0, if_neg h1]
    have hd : (decide (d = 0) || decide (d = 1)) = false := by rw [decide_eq_false h0, decide_eq_false h1]; rfl
    have HC := Lib.hid (clock_out p w hd)
    have d1 : (d == 1) = false := by rw [beq_eq_false_iff_ne]; exact h1
    clear h hs h0 h1 hd
    go_enter Try.func15, Try.ntmps15
    go_wp2_with (first
      | (go_at_call 43; (with_reducible refine (HC.out).mono ?_); rintro e w1 ⟨rfl, rfl⟩)
      | (go_at_call 30; (with_reducible refine (nil_own on x _).mono ?_); rintro e w2 ⟨rfl, rfl⟩))
    go_end0
    exact ⟨rfl, H.out, ButS.refl _ _⟩
theorem root_nil (d : Int) (on : Bool) (x : Int) (w : World) : Calls Try.prog 15 #[.pointer none, .int .i64 d, .bool on, .int .i64 x] w fun e w' => e = .returned (.tuple #[]) ∧ w' = w := by
  go_enter Try.func15, Try.ntmps15
  go_wp2_with fail
  refine bodyPost_ret (results_none rfl _ _ _) rfl ?_
  exact ⟨rfl, rfl⟩
theorem hold_nil (x : Int) (w : World) : Calls Try.prog 44 #[.pointer none, .int .i64 x] w fun e w' => e = .returned (.tuple #[]) ∧ w' = w := by
  go_enter Try.func44, Try.ntmps44
  go_wp2_with fail
  refine bodyPost_ret (results_none rfl _ _ _) rfl ?_
  exact ⟨rfl, rfl⟩
theorem pick_nil (x : Int) (w : World) : Calls Try.prog 18 #[.pointer none, .int .i64 x] w fun e w' => e = .returned (.int .i64 (-1)) ∧ w' = w := by
  go_enter Try.func18, Try.ntmps18
  go_wp2_with fail
  go_ret
  exact ⟨rfl, rfl⟩
theorem pat_nil (x : Int) (w : World) : Calls Try.prog 16 #[.pointer none, .int .i64 x] w fun e w' => e = .returned (.tuple #[.int .i64 0, .bool false]) ∧ w' = w := by
  go_enter Try.func16, Try.ntmps16
  go_wp2_with (first
    | (go_at_call 44; (with_reducible refine (hold_nil x _).mono ?_); rintro e w1 ⟨rfl, rfl⟩)
    | (go_at_call 18; (with_reducible refine (pick_nil x _).mono ?_); rintro e w1 ⟨rfl, rfl⟩)
    | (go_at_call 43; (with_reducible refine (clock_nil (-1) _).mono ?_); rintro e w1 ⟨rfl, rfl⟩)
    | (go_at_call 25; (with_reducible refine (nil_at x _).mono ?_); rintro e w1 ⟨rfl, rfl⟩))
  go_ret2
  exact ⟨rfl, rfl⟩
theorem store_row (w : World) (g : Nat) (cs : Array Value) {L : List Nat} {w0 : World} (h : ButS L w0 w) (hg : w0.heap.size ≤ g) : ButS L w0 (w.setRow g cs) :=
  ⟨h.os, h.tape, h.output, by rw [setRow_siz]; exact h.size, fun k hk hn => (setRow_off w g k cs (by omega)).trans (h.block k hk hn)⟩
theorem Pw.row (h : Pw w p k0 k1 s) {g : Nat} {cs old : Array Value} {fr : Nat × Nat} (hg : w.heap[g]? = some (.cells old 37 fr)) : Pw (w.setRow g cs) p k0 k1 s := by
  have hn : p ≠ g := fun e => by
    subst e
    have h2 := h.box
    rw [hg] at h2
    injection h2 with h2
    injection h2 with _ h2
    exact absurd h2 (by decide)
  exact ⟨(setRow_off w g p cs hn).trans h.box, h.c0.row hg, h.c1.row hg, h.ne⟩
theorem tell_out (h : Pw w p k0 k1 s) {d : Int} (hd : (decide (d = 0) || decide (d = 1)) = false) (q sr po x : Int) : Calls Try.prog 17 #[.pointer (some ⟨p, 0, none⟩), .int .i64 d, .int .i64 q, .int .i64 sr, .int .i64 po, .int .i64 x] w fun e w' => e = .returned (.tuple #[.agg ZC, .bool false]) ∧ LeaveP p k0 k1 w s w' := by
  have HD := fun W => dom_any d W
  rw [hd] at HD
  replace HD := Lib.hid HD
  have hb0 := bAl (bRef w) (.cells #[.int .i64 0, .int .i64 0, .int .i64 0, .int .i64 0, .int .i64 0, .int .i64 0, .int .i64 0, .int .i64 0, .int .i64 0, .int .i64 0, .int .i64 0, .int .i64 0, .int .i64 0, .int .i64 0, .int .i64 0, .slice none 0 0] 37)
  have HZ2 := Lib.hid (heap_alloc_new w (.cells #[.int .i64 0, .int .i64 0, .int .i64 0, .int .i64 0, .int .i64 0, .int .i64 0, .int .i64 0, .int .i64 0, .int .i64 0, .int .i64 0, .int .i64 0, .int .i64 0, .int .i64 0, .int .i64 0, .int .i64 0, .slice none 0 0] 37))
  have H2 := Lib.hid (h.below hb0)
  have HB2 := Lib.hid (ButS.of_below (L := [p, k0, k1]) hb0)
  clear h hd hb0
  go_enter Try.func17, Try.ntmps17
  go_wp2_with (first
    | (go_at_call 45; (with_reducible refine (HD.out _).mono ?_); rintro e w1 ⟨rfl, rfl⟩)
    | ((with_reducible refine at_buildZ ?_); refine wpList_buildZ rfl rfl ?_)
    | ((with_reducible refine at_storeM ?_); refine wpList_storeM rfl _ _ rfl w.heap.size ZC rfl rfl (by simp [ZC, Value.oneCell']) rfl _ HZ2.out rfl ?_))
  refine bodyM2 rfl w.heap.size ZC _ rfl rfl (setRow_heap _ _ _ _ _ _ HZ2.out) rfl rfl ?_
  exact ⟨rfl, H2.out.row HZ2.out, store_row _ _ _ HB2.out (Nat.le_refl _)⟩
theorem tell_zero (h : Pw w p k0 k1 s) (hs : s.Ok) {q sr po x : Int} (hq : In64 q) (hsr : In64 sr) (hpo : In64 po) (hx : In64 x) : Calls Try.prog 17 #[.pointer (some ⟨p, 0, none⟩), .int .i64 0, .int .i64 q, .int .i64 sr, .int .i64 po, .int .i64 x] w fun e w' => e = .returned (.tuple #[.agg (if (s.held x).a.tellB q sr po x = true then MC ((s.held x).a.tellM q sr po x) (.slice none 0 0) else ZC), .bool ((s.held x).a.tellB q sr po x)]) ∧ LeaveP p k0 k1 w (s.held x) w' := by
  have ok := hs.held hx
  have hb0 := bAl (bRef w) (.cells #[.int .i64 0, .int .i64 0, .int .i64 0, .int .i64 0, .int .i64 0, .int .i64 0, .int .i64 0, .int .i64 0, .int .i64 0, .int .i64 0, .int .i64 0, .int .i64 0, .int .i64 0, .int .i64 0, .int .i64 0, .slice none 0 0] 37)
  have HZ := Lib.hid (heap_alloc_new w (.cells #[.int .i64 0, .int .i64 0, .int .i64 0, .int .i64 0, .int .i64 0, .int .i64 0, .int .i64 0, .int .i64 0, .int .i64 0, .int .i64 0, .int .i64 0, .int .i64 0, .int .i64 0, .int .i64 0, .int .i64 0, .slice none 0 0] 37))
  have HB0 := Lib.hid (ButS.of_below (L := [p, k0, k1]) hb0)
  have hlp := h.lt
  have hl0 := h.c0.lt
  have hl1 := h.c1.lt
  have hnot : w.heap.size ∉ [p, k0, k1] := by simp; omega
  have HH := Lib.hid (phold_any (h.below hb0) hs hx)
  have HT := Lib.hid (fun W (h : Ck W k0 (s.held x).a) => tell_any h ok.a (q := q) (sr := sr) (po := po) (x := x) (by rw [ok.da]; exact ⟨by decide, by decide⟩) hq hsr hpo hx)
  clear h hs hq hsr hpo hx hb0
  have hc : (if (s.held x).a.tellB q sr po x = true then MC ((s.held x).a.tellM q sr po x) (.slice none 0 0) else ZC).size = 16 := by split <;> rfl
  have ho : (if (s.held x).a.tellB q sr po x = true then MC ((s.held x).a.tellM q sr po x) (.slice none 0 0) else ZC).all (·.oneCell') = true := by
    split
    · exact MC_one _ _ _ _
    · simp [ZC, Value.oneCell']
  generalize (if (s.held x).a.tellB q sr po x = true then MC ((s.held x).a.tellM q sr po x) (.slice none 0 0) else ZC) = cs at *
  generalize (s.held x).a.tellB q sr po x = tb at *
  generalize s.held x = t at *
  go_enter Try.func17, Try.ntmps17
  go_wp2_with (first
    | (go_at_call 45; (with_reducible refine (dom_any 0 _).mono ?_); rintro e w1 ⟨rfl, rfl⟩)
    | (go_at_call 44; (with_reducible refine (HH.out).mono ?_); rintro e w2 ⟨rfl, h1, b1⟩; have H1 := Lib.hid h1; have B1 := Lib.hid (HB0.out.trans b1); have HZ1 := Lib.hid ((b1.block _ (lt_of_heap HZ.out) hnot).trans HZ.out); clear h1 b1)
    | (go_at_call 43; (with_reducible refine (clock_zero H1.out).mono ?_); rintro e w3 ⟨rfl, rfl⟩)
    | (go_at_call 31; (with_reducible refine (HT.out _ H1.out.c0).mono ?_); rintro e w4 ⟨rfl, hb⟩; have H2 := Lib.hid (H1.out.below hb); have B2 := Lib.hid (B1.out.trans (ButS.of_below hb)); have HZ2 := Lib.hid ((hb.block _ (lt_of_heap HZ1.out)).trans HZ1.out); clear hb)
    | ((with_reducible refine at_storeM ?_); refine wpList_storeM rfl _ _ rfl w.heap.size cs rfl rfl ho hc _ HZ2.out rfl ?_))
  refine bodyM2 rfl w.heap.size cs _ rfl rfl (setRow_heap _ _ _ _ _ _ HZ2.out) hc rfl ?_
  exact ⟨rfl, H2.out.row HZ2.out, store_row _ _ _ B2.out (Nat.le_refl _)⟩
theorem tell_one (h : Pw w p k0 k1 s) (hs : s.Ok) {q sr po x : Int} (hq : In64 q) (hsr : In64 sr) (hpo : In64 po) (hx : In64 x) : Calls Try.prog 17 #[.pointer (some ⟨p, 0, none⟩), .int .i64 1, .int .i64 q, .int .i64 sr, .int .i64 po, .int .i64 x] w fun e w' => e = .returned (.tuple #[.agg (if (s.held x).b.tellB q sr po x = true then MC ((s.held x).b.tellM q sr po x) (.slice none 0 0) else ZC), .bool ((s.held x).b.tellB q sr po x)]) ∧ LeaveP p k0 k1 w (s.held x) w' := by
  have ok := hs.held hx
  have hb0 := bAl (bRef w) (.cells #[.int .i64 0, .int .i64 0, .int .i64 0, .int .i64 0, .int .i64 0, .int .i64 0, .int .i64 0, .int .i64 0, .int .i64 0, .int .i64 0, .int .i64 0, .int .i64 0, .int .i64 0, .int .i64 0, .int .i64 0, .slice none 0 0] 37)
  have HZ := Lib.hid (heap_alloc_new w (.cells #[.int .i64 0, .int .i64 0, .int .i64 0, .int .i64 0, .int .i64 0, .int .i64 0, .int .i64 0, .int .i64 0, .int .i64 0, .int .i64 0, .int .i64 0, .int .i64 0, .int .i64 0, .int .i64 0, .int .i64 0, .slice none 0 0] 37))
  have HB0 := Lib.hid (ButS.of_below (L := [p, k0, k1]) hb0)
  have hlp := h.lt
  have hl0 := h.c0.lt
  have hl1 := h.c1.lt
  have hnot : w.heap.size ∉ [p, k0, k1] := by simp; omega
  have HH := Lib.hid (phold_any (h.below hb0) hs hx)
  have HT := Lib.hid (fun W (h : Ck W k1 (s.held x).b) => tell_any h ok.b (q := q) (sr := sr) (po := po) (x := x) (by rw [ok.db]; exact ⟨by decide, by decide⟩) hq hsr hpo hx)
  clear h hs hq hsr hpo hx hb0
  have hc : (if (s.held x).b.tellB q sr po x = true then MC ((s.held x).b.tellM q sr po x) (.slice none 0 0) else ZC).size = 16 := by split <;> rfl
  have ho : (if (s.held x).b.tellB q sr po x = true then MC ((s.held x).b.tellM q sr po x) (.slice none 0 0) else ZC).all (·.oneCell') = true := by
    split
    · exact MC_one _ _ _ _
    · simp [ZC, Value.oneCell']
  generalize (if (s.held x).b.tellB q sr po x = true then MC ((s.held x).b.tellM q sr po x) (.slice none 0 0) else ZC) = cs at *
  generalize (s.held x).b.tellB q sr po x = tb at *
  generalize s.held x = t at *
  go_enter Try.func17, Try.ntmps17
  go_wp2_with (first
    | (go_at_call 45; (with_reducible refine (dom_any 1 _).mono ?_); rintro e w1 ⟨rfl, rfl⟩)
    | (go_at_call 44; (with_reducible refine (HH.out).mono ?_); rintro e w2 ⟨rfl, h1, b1⟩; have H1 := Lib.hid h1; have B1 := Lib.hid (HB0.out.trans b1); have HZ1 := Lib.hid ((b1.block _ (lt_of_heap HZ.out) hnot).trans HZ.out); clear h1 b1)
    | (go_at_call 43; (with_reducible refine (clock_one H1.out).mono ?_); rintro e w3 ⟨rfl, rfl⟩)
    | (go_at_call 31; (with_reducible refine (HT.out _ H1.out.c1).mono ?_); rintro e w4 ⟨rfl, hb⟩; have H2 := Lib.hid (H1.out.below hb); have B2 := Lib.hid (B1.out.trans (ButS.of_below hb)); have HZ2 := Lib.hid ((hb.block _ (lt_of_heap HZ1.out)).trans HZ1.out); clear hb)
    | ((with_reducible refine at_storeM ?_); refine wpList_storeM rfl _ _ rfl w.heap.size cs rfl rfl ho hc _ HZ2.out rfl ?_))
  refine bodyM2 rfl w.heap.size cs _ rfl rfl (setRow_heap _ _ _ _ _ _ HZ2.out) hc rfl ?_
  exact ⟨rfl, H2.out.row HZ2.out, store_row _ _ _ B2.out (Nat.le_refl _)⟩
theorem ptell_nil (q sr po x : Int) (w : World) : Calls Try.prog 17 #[.pointer none, .int .i64 0, .int .i64 q, .int .i64 sr, .int .i64 po, .int .i64 x] w fun e w' => e = .returned (.tuple #[.agg ZC, .bool false]) ∧ Below w.heap.size w w' := by
  have HB0 := Lib.hid (bAl (bRef w) (.cells #[.int .i64 0, .int .i64 0, .int .i64 0, .int .i64 0, .int .i64 0, .int .i64 0, .int .i64 0, .int .i64 0, .int .i64 0, .int .i64 0, .int .i64 0, .int .i64 0, .int .i64 0, .int .i64 0, .int .i64 0, .slice none 0 0] 37))
  have HZ := Lib.hid (heap_alloc_new w (.cells #[.int .i64 0, .int .i64 0, .int .i64 0, .int .i64 0, .int .i64 0, .int .i64 0, .int .i64 0, .int .i64 0, .int .i64 0, .int .i64 0, .int .i64 0, .int .i64 0, .int .i64 0, .int .i64 0, .int .i64 0, .slice none 0 0] 37))
  have HT := Lib.hid (fun W => ctell_nil q sr po x W)
  go_enter Try.func17, Try.ntmps17
  go_wp2_with (first
    | (go_at_call 45; (with_reducible refine (dom_any 0 _).mono ?_); rintro e w1 ⟨rfl, rfl⟩)
    | (go_at_call 44; (with_reducible refine (hold_nil x _).mono ?_); rintro e w1 ⟨rfl, rfl⟩)
    | (go_at_call 43; (with_reducible refine (clock_nil 0 _).mono ?_); rintro e w1 ⟨rfl, rfl⟩)
    | (go_at_call 31; (with_reducible refine (HT.out _).mono ?_); rintro e w4 ⟨rfl, hb⟩; have B2 := Lib.hid (bTr HB0.out hb); have HZ2 := Lib.hid ((hb.block _ (lt_of_heap HZ.out)).trans HZ.out); clear hb)
    | ((with_reducible refine at_storeM ?_); refine wpList_storeM rfl _ _ rfl w.heap.size ZC rfl rfl (by simp [ZC, Value.oneCell']) rfl _ HZ2.out rfl ?_))
  refine bodyM2 rfl w.heap.size ZC _ rfl rfl (setRow_heap _ _ _ _ _ _ HZ2.out) rfl rfl ?_
  exact ⟨rfl, below_setRow B2.out (Nat.le_refl _) _⟩
end

end Go.Proofs.Ytfeoppbincldfaa
