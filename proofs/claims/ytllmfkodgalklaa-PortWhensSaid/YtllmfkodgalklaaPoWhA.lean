/- Package port: what When leans on. -/
import Derived.Test.YtllmfkodgalklaaPoCls
namespace Go.Proofs.Ytllmfkodgalklaa
open Go.RowKit Go.Joins

/-- When a gate opens behind a time, by one list. -/
def opensV (b c : Int) (ts : List (Int × Int)) (x y : Int) : Int × Bool :=
  if leftV b c ts x y = 2147483648 then (0, false)
  else if (nextV b c ts (x + leftV b c ts x y) y).2 = true then (x + leftV b c ts x y + (nextV b c ts (x + leftV b c ts x y) y).1, true) else (0, false)
theorem Good.up_two {b c : Int} {ts : List (Int × Int)} (h : Good b c ts) {j : Nat} (hj : j < 2 * ts.length) : up c ts j ≤ 2 * c := by
  have h1 := h.up_le (i := j) (k := 2 * ts.length) (by omega)
  have h2 := h.up_turn ts.length
  have h3 := h.up_turn 0
  have e0 : up c ts 0 = 0 := by
    have := up_slot (c := c) (ts := ts) (i := 0) h.pos
    rw [this]; rfl
  rw [Nat.zero_add] at h3
  rw [show 2 * ts.length = ts.length + ts.length by omega] at h1
  omega
theorem stay_bound {b c : Int} {ts : List (Int × Int)} (h : Good b c ts) {g : Int} (hg : 0 ≤ g) (gate : Nat) (bit : Int) : 0 ≤ stayV c ts g gate bit ∧ (stayV c ts g gate bit = 2147483648 ∨ stayV c ts g gate bit ≤ 2147483648) := by
  unfold stayV
  split
  · rename_i j hj
    obtain ⟨h1, h2, _⟩ := search_some _ _ hj
    have hs := h.slot_lt g
    have h3 := h.up_two (j := j) (by omega)
    have h4 := h.c1
    exact ⟨by omega, by omega⟩
  · exact ⟨by omega, .inl rfl⟩
theorem leftV_bound {b c : Int} {ts : List (Int × Int)} (x y : Int) : 0 ≤ leftV b c ts x y ∧ leftV b c ts x y ≤ 2147483648 := by
  unfold leftV
  split
  · rename_i h
    have hg := chk_good h.1.2
    have := stay_bound hg (gone_bd (b := b) x hg.c0).1 y.toNat 1
    omega
  · omega
theorem nextV_bound {b c : Int} {ts : List (Int × Int)} (x y : Int) : 0 ≤ (nextV b c ts x y).1 ∧ (nextV b c ts x y).1 ≤ 2147483648 := by
  unfold nextV
  split
  · rename_i h
    have hg := chk_good h.1.2
    have := stay_bound hg (gone_bd (b := b) x hg.c0).1 y.toNat 0
    split
    · exact ⟨Int.le_refl _, show (0 : Int) ≤ 2147483648 by omega⟩
    · exact ⟨by show 0 ≤ stayV _ _ _ _ _; omega, by show stayV _ _ _ _ _ ≤ 2147483648; omega⟩
  · exact ⟨Int.le_refl _, show (0 : Int) ≤ 2147483648 by omega⟩
set_option maxHeartbeats 1000000 in
theorem opens_any {W : World} (b c : Int) (sl : Value) (ts : List (Int × Int)) (ht : TArg W sl ts) (x : Int) (hx : inNow x) (y : Int) : Calls Try.prog 38 #[LV b c sl, .int .i64 x, .int .i64 y] W fun e w' => e = .returned (.tuple #[.int .i64 (opensV b c ts x y).1, .bool (opensV b c ts x y).2]) ∧ Below W.heap.size W w' := by
  have HB0 := Lib.hid (bAl (bRef W) (.cells #[.int .i64 b, .int .i64 c, sl] 24))
  have HA := Lib.hid (ht.below HB0.out)
  have HL0 := Lib.hid (LB.new W b c sl)
  have HLV := Lib.hid (fun W (k : TArg W sl ts) => left_any b c sl ts x W y k)
  have HNV := Lib.hid (fun W (k : TArg W sl ts) => next_any b c sl ts (x + leftV b c ts x y) W y k)
  have hlb := leftV_bound (b := b) (c := c) (ts := ts) x y
  have hnb := nextV_bound (b := b) (c := c) (ts := ts) (x + leftV b c ts x y) y
  unfold opensV
  obtain ⟨sp, sc, rfl⟩ := ht.slice
  generalize leftV b c ts x y = l at *
  have e1 : wrap64 (x + l) = x + l := by have := hx.1; have := hx.2; unfold wrap64; omega
  generalize (nextV b c ts (x + l) y).2 = n2 at *
  generalize (nextV b c ts (x + l) y).1 = n1 at *
  have e2 : wrap64 (x + l + n1) = x + l + n1 := by have := hx.1; have := hx.2; unfold wrap64; omega
  generalize ts.length = n at *
  have HE2 := Lib.hid e2
  obtain ⟨z, hz⟩ : ∃ z, z = x + l := ⟨_, rfl⟩
  rw [← hz] at e1 e2 HNV HE2
  rw [← hz]
  by_cases hl : l = 2147483648
  · have d0 : (l == 2147483648) = true := by rw [hl]; rfl
    rw [if_pos hl]
    clear ht hx hlb hnb hl e1 e2 hz
    go_enter Try.func38, Try.ntmps38
    go_wp2_with (go_at_call 26; (with_reducible refine (HLV.out _ HA.out).mono ?_); rintro e w1 ⟨rfl, hb⟩; have HB1 := Lib.hid (bTr HB0.out hb); clear hb)
    go_ret2
    exact ⟨rfl, HB1.out⟩
  · have d0 : (l == 2147483648) = false := by rw [beq_eq_false_iff_ne]; exact hl
    rw [if_neg hl]
    have ex : x + l = z := hz.symm
    have ew : wrap64 z = z := e1
    clear ht hx hlb hnb hl e1 hz
    cases n2 with
    | false =>
      rw [if_neg (by decide)]
      go_enter Try.func38, Try.ntmps38
      go_wp2_with (first
        | (go_at_call 26; (with_reducible refine (HLV.out _ HA.out).mono ?_); rintro e w1 ⟨rfl, hb⟩; have HB1 := Lib.hid (bTr HB0.out hb); have HA1 := Lib.hid (HA.out.below hb); obtain ⟨l0, l1, l2⟩ := (HL0.out.below hb).cells; clear hb)
        | (go_at_call 27; (with_reducible refine (HNV.out _ HA1.out).mono ?_); rintro e w2 ⟨rfl, hb⟩; have HB2 := Lib.hid (bTr HB1.out hb); clear hb))
      go_ret2
      exact ⟨rfl, HB2.out⟩
    | true =>
      rw [if_pos rfl]
      go_enter Try.func38, Try.ntmps38
      go_wp2_with (first
        | (go_at_call 26; (with_reducible refine (HLV.out _ HA.out).mono ?_); rintro e w1 ⟨rfl, hb⟩; have HB1 := Lib.hid (bTr HB0.out hb); have HA1 := Lib.hid (HA.out.below hb); obtain ⟨l0, l1, l2⟩ := (HL0.out.below hb).cells; clear hb)
        | (go_at_call 27; (with_reducible refine (HNV.out _ HA1.out).mono ?_); rintro e w2 ⟨rfl, hb⟩; have HB2 := Lib.hid (bTr HB1.out hb); clear hb))
      go_ret2
      exact ⟨by show Ending.returned (Value.tuple #[.int .i64 (wrap64 (z + n1)), .bool true]) = _; rw [HE2.out], HB2.out⟩
section
variable {w0 W : World} {k L : Nat} {F : Nat → Prop} {p : PL} {s : LS}
theorem mul8 {z : Int} (h0 : 0 ≤ z) (h1 : z ≤ 1600) : wrap64 (8 * z) = 8 * z ∧ IntKind.i64.wrap (8 * z) = 8 * z := by
  constructor
  · unfold wrap64; omega
  · rw [IntKind.wrap_i64]; omega
set_option maxHeartbeats 1000000 in
theorem pfits (h : PoL w0 W k L F p s) {c : Nat} (hc : c < 8) {y : It} {R : List It} (hq : s.q c = y :: R) (left : Int) : Calls Try.prog 36 #[.pointer (some ⟨k, 0, none⟩), .int .i64 (c : Int), .int .i64 left] W fun e w' => e = .returned (.bool (decide (8 * y.2.1 ≤ left))) ∧ Below W.heap.size W w' := by
  have hl := h.lan
  have hln := h.gd.ln c hc
  rw [hq] at hln
  have hsz := h.gd.sz c hc y (by rw [hq]; exact List.mem_cons_self ..)
  obtain ⟨y0, y1, y2⟩ := y
  have HH : Hid (Calls Try.prog 47 #[.pointer (some ⟨L, 0, none⟩), .int .i64 (c : Int)] W fun e w' => e = .returned (.tuple #[.agg #[.int .i64 y0, .int .i64 y1, .bool y2], .bool true]) ∧ Below W.heap.size W w') := Lib.hid (hd_some h.ln.ln c hc hq (by simp at hln; omega))
  obtain ⟨em, emk⟩ := mul8 hsz.1 hsz.2
  dsimp only at em emk ⊢
  have eb : decide (left ≥ 8 * y1) = decide (8 * y1 ≤ left) := rfl
  clear h hq hsz hln
  cases hd : decide (8 * y1 ≤ left) with
  | true =>
    go_enter Try.func36, Try.ntmps36
    go_wp2_with (go_at_call 47; (with_reducible refine (HH.out).mono ?_); rintro e w1 ⟨rfl, hb⟩; have HB1 := Lib.hid hb; clear hb)
    go_ret
    exact ⟨rfl, bAl HB1.out _⟩
  | false =>
    go_enter Try.func36, Try.ntmps36
    go_wp2_with (go_at_call 47; (with_reducible refine (HH.out).mono ?_); rintro e w1 ⟨rfl, hb⟩; have HB1 := Lib.hid hb; clear hb)
    go_ret
    exact ⟨rfl, bAl HB1.out _⟩
/-- A class's first one has time enough. -/
def fitB (s : LS) (left : Nat → Int) (c : Nat) : Bool := match s.q c with | [] => false | y :: _ => decide (8 * y.2.1 ≤ left c)
theorem fitB_iff (s : LS) (left : Nat → Int) (c : Nat) : fitB s left c = true ↔ fits s left c := by
  unfold fitB fits
  cases h : s.q c with
  | nil => simp
  | cons y R => simp
/-- What the first closure has: the port's box, and what is left. -/
structure WhB (W : World) (k bp bl : Nat) (l : Nat → Int) : Prop where
  hp : W.heap[bp]? = some (.cells #[.pointer (some ⟨k, 0, none⟩)] 27 (0, 0))
  hl : W.heap[bl]? = some (o8 l)
theorem WhB.below {W W' : World} {k bp bl : Nat} {l : Nat → Int} (h : WhB W k bp bl l) (hb : Below W.heap.size W W') : WhB W' k bp bl l := ⟨(hb.block _ (lt_of_heap h.hp)).trans h.hp, (hb.block _ (lt_of_heap h.hl)).trans h.hl⟩
set_option maxHeartbeats 1000000 in
theorem when1_any (h : PoL w0 W k L F p s) {bp bl : Nat} {l : Nat → Int} (hw : WhB W k bp bl l) {c : Nat} (hc : c < 8) (hq : 0 < (s.q c).length) : Calls Try.prog 35 #[.int .i64 (c : Int), .pointer (some ⟨bp, 0, none⟩), .pointer (some ⟨bl, 0, none⟩)] W fun e w' => e = .returned (.bool (fitB s l c)) ∧ Below W.heap.size W w' := by
  rcases hs : s.q c with _ | ⟨y, R⟩
  · rw [hs] at hq; simp at hq
  have ef : fitB s l c = decide (8 * y.2.1 ≤ l c) := by unfold fitB; rw [hs]
  rw [ef]
  have hd := bDr1 (bRef W)
  have HC := Lib.hid (pfits (h.below hd) hc hs (l c))
  have HD := Lib.hid hd
  have HS : Hid (W.drew.cell? ⟨bp, 0, none⟩ = some (.pointer (some ⟨k, 0, none⟩)) ∧ W.drew.cell? ⟨bl, c, none⟩ = some (.int .i64 (l c))) := Lib.hid ⟨cell_of_row _ _ 0 _ _ _ (hw.below hd).hp, o8_cells l (hw.below hd).hl hc⟩
  have i1 : (0 : Int) ≤ (c : Int) := by omega
  have i2 : (c : Int) < 8 := by omega
  generalize decide (8 * y.2.1 ≤ l c) = bv at *
  clear h hw hq hs ef hd
  go_enter Try.func35, Try.ntmps35
  go_wp2_with fail
  refine wp_region_held_drew (S := fun V => V.cell? ⟨bp, 0, none⟩ = some (.pointer (some ⟨k, 0, none⟩)) ∧ V.cell? ⟨bl, c, none⟩ = some (.int .i64 (l c))) (by kernel_rfl) HS.out (fun h0 => ?_)
  refine hTakeS (i := 0) (k := 5) (v := .pointer (some ⟨k, 0, none⟩)) rfl rfl (by kernel_rfl) (by kernel_rfl) (by kernel_rfl) (fun _ _ _ h => h) (.inl ⟨by rfl, fun W hW => by obtain ⟨b0, b1⟩ := hW; go_simp⟩) h0 ?_
  simp only [List.setIfInBounds_toArray, List.set_cons_zero, List.set_cons_succ]
  refine hTakeS (i := 1) (k := 6) (v := .int .i64 (c : Int)) rfl rfl (by kernel_rfl) (by kernel_rfl) (by kernel_rfl) (fun _ _ _ h => h) (yieldsIf_val (by rfl) (by intro W; go_simp)) h0 ?_
  simp only [List.setIfInBounds_toArray, List.set_cons_zero, List.set_cons_succ]
  refine hTakeS (i := 2) (k := 7) (v := .int .i64 (c : Int)) rfl rfl (by kernel_rfl) (by kernel_rfl) (by kernel_rfl) (fun _ _ _ h => h) (yieldsIf_val (by rfl) (by intro W; go_simp)) h0 ?_
  simp only [List.setIfInBounds_toArray, List.set_cons_zero, List.set_cons_succ]
  refine hTakeS (i := 3) (k := 8) (v := .pointer (some ⟨bl, c, none⟩)) rfl rfl (by kernel_rfl) (by kernel_rfl) (by kernel_rfl) (fun _ _ _ h => h) (yieldsIf_val (by rfl) (by intro W; go_simp)) h0 ?_
  simp only [List.setIfInBounds_toArray, List.set_cons_zero, List.set_cons_succ]
  refine hTakeS (i := 4) (k := 9) (v := .int .i64 (l c)) rfl rfl (by kernel_rfl) (by kernel_rfl) (by kernel_rfl) (fun _ _ _ h => h) (.inl ⟨by rfl, fun W hW => by obtain ⟨b0, b1⟩ := hW; go_simp⟩) h0 ?_
  simp only [List.setIfInBounds_toArray, List.set_cons_zero, List.set_cons_succ]
  refine hCallR (i := 5) (k := 10) (by kernel_rfl) rfl rfl (by rfl) 36 #[.pointer (some ⟨k, 0, none⟩), .int .i64 (c : Int), .int .i64 (l c)] (by go_simp) (HC.out) ?_
  rintro e w2 ⟨rfl, hb⟩
  have HB2 := Lib.hid (HD.out.trans hb)
  have h1 := And.intro ((hb.cell (block_lt_cell h0.1)).trans h0.1) ((hb.cell (block_lt_cell h0.2)).trans h0.2)
  clear hb
  refine ⟨_, rfl, h1, ?_⟩
  simp only [List.setIfInBounds_toArray, List.set_cons_zero, List.set_cons_succ]
  refine hTakeS (i := 6) (k := 4) (v := .bool bv) rfl rfl (by kernel_rfl) (by kernel_rfl) (by kernel_rfl) (fun _ _ _ h => h) (yieldsIf_val (by rfl) (by intro W; go_simp)) h1 ?_
  simp only [List.setIfInBounds_toArray, List.set_cons_zero, List.set_cons_succ]
  refine wpAnyH_done (by kernel_rfl) ?_ _
  go_wp2_with fail
  go_ret
  exact ⟨rfl, HB2.out⟩
/-- The first one of a row that meets something. -/
def fst (pr : Int → Bool) : List Int → Nat → Int
  | [], _ => -1
  | x :: xs, k => if pr x = true then (k : Int) else fst pr xs (k + 1)
theorem fst_drop {pr : Int → Bool} {xs : List Int} {i : Nat} (hi : i < xs.length) : fst pr (xs.drop i) i = if pr (xs.getD i 0) = true then (i : Int) else fst pr (xs.drop (i + 1)) (i + 1) := by
  rw [List.drop_eq_getElem_cons hi, List.getD_eq_getElem?_getD, List.getElem?_eq_getElem hi]
  rfl
theorem fst_any (pr : Int → Bool) : ∀ (xs : List Int) (k : Nat), decide (0 ≤ fst pr xs k) = xs.any pr
  | [], k => by simp [fst]
  | x :: xs, k => by
    unfold fst
    by_cases h : pr x = true
    · rw [if_pos h]
      simp [h]
    · rw [if_neg h, fst_any pr xs (k + 1)]
      simp [h]
abbrev wcap (bp bl : Nat) : Value := .func (.func 35) #[] #[.pointer (some ⟨bp, 0, none⟩), .pointer (some ⟨bl, 0, none⟩)]
set_option maxHeartbeats 1000000 in
theorem indexf_any {v : Value} {xs : List Int} (hla : LA W v xs) (hlen : xs.length ≤ 8) (bp bl : Nat) (pr : Int → Bool) (hc : ∀ W', Below W.heap.size W W' → ∀ x ∈ xs, Calls Try.prog 35 #[.int .i64 x, .pointer (some ⟨bp, 0, none⟩), .pointer (some ⟨bl, 0, none⟩)] W' fun e w' => e = .returned (.bool (pr x)) ∧ Below W'.heap.size W' w') :
    Calls Try.prog 53 #[v, wcap bp bl] W fun e w' => e = .returned (.int .i64 (fst pr xs 0)) ∧ Below W.heap.size W w' := by
  have HC := Lib.hid hc
  have HL := Lib.hid hla
  obtain ⟨vp, vc, rfl⟩ := hla.slice
  obtain ⟨n, hn⟩ : ∃ n, n = xs.length := ⟨_, rfl⟩
  have HN := Lib.hid hn
  rw [← hn] at HL hlen ⊢
  clear hc hla hn
  go_enter Try.func53, Try.ntmps53
  go_wp2_with fail
  go_loopw [8] (fun iv wr => ∃ i : Nat, i ≤ n ∧ iv = .int .i64 (i : Int) ∧ fst pr xs 0 = fst pr (xs.drop i) i ∧ Below W.heap.size W wr) (fun iv _ => n - (intOf iv).toNat)
  case atStart => exact ⟨0, by omega, rfl, rfl, bRef W⟩
  case round =>
    obtain ⟨i, hi, rfl, hf, hb⟩ := hrel
    have HB := Lib.hid hb
    have HF := Lib.hid hf
    clear hb hf
    rcases Nat.lt_or_ge i n with g | g
    · have d0 : decide ((i : Int) < (n : Int)) = true := decide_eq_true (by omega)
      have i1 : (0 : Int) ≤ (i : Int) := by omega
      rcases HL.out with ⟨e, _⟩ | ⟨_, b, o, c, e, ⟨cur, fr, hg⟩, hcell⟩
      · have := HN.out; rw [e] at this; simp at this; omega
      injection e with e1 e2 e3
      subst e1 e3
      have q := (HB.out.cell (p := ⟨b, o + i, none⟩) (lt_of_heap hg)).trans (hcell i (by rw [← HN.out]; exact g))
      have HX := Lib.hid (HC.out _ HB.out (xs.getD i 0) (by rw [List.getD_eq_getElem?_getD, List.getElem?_eq_getElem (by rw [← HN.out]; exact g)]; exact List.getElem_mem _))
      have HFD := Lib.hid (fst_drop (pr := pr) (xs := xs) (i := i) (by rw [← HN.out]; exact g))
      generalize xs.getD i 0 = z at *
      obtain ⟨bz, hbz⟩ : ∃ bz, pr z = bz := ⟨_, rfl⟩
      rw [hbz] at HX HFD
      clear hcell hg e2 hbz
      cases bz with
      | true =>
        go_wp2_with (go_at_call 35; (with_reducible refine (HX.out).mono ?_); rintro e w1 ⟨rfl, hb⟩; have HB1 := Lib.hid (bTr HB.out hb); clear hb)
        go_ret
        exact ⟨by rw [HF.out, show fst pr (xs.drop i) i = (i : Int) by simpa using HFD.out]; rfl, HB1.out⟩
      | false =>
        go_wp2_with (go_at_call 35; (with_reducible refine (HX.out).mono ?_); rintro e w1 ⟨rfl, hb⟩; have HB1 := Lib.hid (bTr HB.out hb); clear hb)
        go_roundw
        case rel => exact ⟨i + 1, by omega, by go_num, by rw [HF.out]; simpa using HFD.out, HB1.out⟩
        case measure => simp [intOf]; omega
    · obtain rfl : n = i := by omega
      have d0 : decide ((n : Int) < (n : Int)) = false := decide_eq_false (by omega)
      go_wp2_with fail
      go_ret
      exact ⟨by rw [HF.out, HN.out, List.drop_length]; rfl, HB.out⟩
theorem containsf_any {v : Value} {xs : List Int} (hla : LA W v xs) (hlen : xs.length ≤ 8) (bp bl : Nat) (pr : Int → Bool) (hc : ∀ W', Below W.heap.size W W' → ∀ x ∈ xs, Calls Try.prog 35 #[.int .i64 x, .pointer (some ⟨bp, 0, none⟩), .pointer (some ⟨bl, 0, none⟩)] W' fun e w' => e = .returned (.bool (pr x)) ∧ Below W'.heap.size W' w') :
    Calls Try.prog 34 #[v, wcap bp bl] W fun e w' => e = .returned (.bool (xs.any pr)) ∧ Below W.heap.size W w' := by
  have HI := Lib.hid (indexf_any hla hlen bp bl pr hc)
  rw [← fst_any pr xs 0]
  obtain ⟨vp, vc, rfl⟩ := hla.slice
  generalize xs.length = n at *
  generalize fst pr xs 0 = f at *
  clear hla hc hlen
  go_enter Try.func34, Try.ntmps34
  go_wp2_with (go_at_call 53; (with_reducible refine (HI.out).mono ?_); rintro e w1 ⟨rfl, hb⟩; have HB1 := Lib.hid hb; clear hb)
  go_ret
  exact ⟨rfl, HB1.out⟩
end

end Go.Proofs.Ytllmfkodgalklaa
