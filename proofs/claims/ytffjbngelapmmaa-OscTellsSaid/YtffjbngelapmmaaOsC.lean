/- Package osc: New. -/
import Derived.Test.YtffjbngelapmmaaOsB
namespace Go.Proofs.Ytffjbngelapmmaa
open Go.RowKit Go.Joins

theorem tA_succ (x : Int × Int) (ts : List (Int × Int)) (k : Nat) : tA (x :: ts) (k + 1) = tA ts k := by unfold tA; rw [List.getD_cons_succ]
theorem tR_succ (x : Int × Int) (ts : List (Int × Int)) (k : Nat) : tR (x :: ts) (k + 1) = tR ts k := by unfold tR; rw [List.getD_cons_succ]
theorem tA_zero (a r : Int) (ts : List (Int × Int)) : tA ((a, r) :: ts) 0 = a := rfl
theorem tR_zero (a r : Int) (ts : List (Int × Int)) : tR ((a, r) :: ts) 0 = r := rfl
theorem chk_good (ts : List (Int × Int)) : ∀ p, chkFrom p ts = 0 → (0 < ts.length → p < tA ts 0) ∧ ∀ k, k < ts.length → tA ts k ≤ 1099511627776 ∧ 2181843386368 ≤ tR ts k ∧ tR ts k ≤ 2216203124736 ∧ (k + 1 < ts.length → tA ts k < tA ts (k + 1)) := by
  induction ts with
  | nil => intro p _; exact ⟨fun h => by simp at h, fun k h => by simp at h⟩
  | cons x ts ih =>
    obtain ⟨a, r⟩ := x
    intro p h
    unfold chkFrom at h
    by_cases h1 : 1099511627776 < a ∨ a ≤ p
    · rw [if_pos h1] at h; omega
    rw [if_neg h1] at h
    by_cases h2 : r < 2181843386368 ∨ 2216203124736 < r
    · rw [if_pos h2] at h; omega
    rw [if_neg h2] at h
    have := ih a h
    refine ⟨fun _ => by rw [tA_zero]; omega, fun k hk => ?_⟩
    cases k with
    | zero =>
      rw [tA_zero, tR_zero, tA_succ]
      refine ⟨by omega, by omega, by omega, fun hl => this.1 (by simp at hl; omega)⟩
    | succ k =>
      rw [tA_succ, tR_succ, tA_succ]
      have h3 := this.2 k (by simp at hk; omega)
      exact ⟨h3.1, h3.2.1, h3.2.2.1, fun hl => h3.2.2.2 (by simp at hl; omega)⟩
theorem good_of {ts : List (Int × Int)} (h : chkFrom (-1) ts = 0) (h0 : 0 < ts.length) (hl : ts.length ≤ 64) (hf : tA ts 0 = 0) : Good ts := by
  have hc := chk_good ts (-1) h
  exact ⟨h0, hl, hf, fun k hk => (hc.2 k (by omega)).2.2.2 hk, fun k hk => (hc.2 k hk).1, fun k hk => ⟨(hc.2 k hk).2.1, (hc.2 k hk).2.2.1⟩⟩

/-- A clock in memory. -/
def Clk (B : Nat) (w : World) (v : Value) (s g : Int) (ts : List (Int × Int)) : Prop :=
  ∃ b l c, v = .pointer (some ⟨b, 0, none⟩) ∧ B ≤ b ∧ B ≤ l ∧ b < w.heap.size ∧ l < w.heap.size ∧ w.cell? ⟨b, 0, none⟩ = some (.int .i64 g) ∧ w.cell? ⟨b, 1, none⟩ = some (.slice (some ⟨l, 0, none⟩) ts.length c) ∧
    ∀ k, k < ts.length → w.cell? ⟨l, k * 3, none⟩ = some (.int .i64 (tA ts k)) ∧ w.cell? ⟨l, k * 3 + 1, none⟩ = some (.int .i64 (tR ts k)) ∧ w.cell? ⟨l, k * 3 + 2, none⟩ = some (.int .i64 (told s ts k))
theorem Clk.below {B : Nat} {w w' : World} {v : Value} {s g : Int} {ts : List (Int × Int)} (h : Clk B w v s g ts) (hb : Below w.heap.size w w') : Clk B w' v s g ts := by
  obtain ⟨b, l, c, rfl, h1, h2, h3, h4, h5, h6, h7⟩ := h
  exact ⟨b, l, c, rfl, h1, h2, Nat.lt_of_lt_of_le h3 hb.size, Nat.lt_of_lt_of_le h4 hb.size, (hb.cell h3).trans h5, (hb.cell h3).trans h6, fun k hk => ⟨(hb.cell h4).trans (h7 k hk).1, (hb.cell h4).trans (h7 k hk).2.1, (hb.cell h4).trans (h7 k hk).2.2⟩⟩
/-- The legs and the clock's own block. -/
theorem clk_new {w w1 : World} {g6 : Nat} {v : Value} {s g : Int} {ts : List (Int × Int)} (h : OwnL w g6 w1 v s ts ts.length) (h0 : 0 < ts.length) :
    Clk w.heap.size (w1.alloc (.cells #[.int .i64 g, v] 54)) (.pointer (some ⟨w1.heap.size, 0, none⟩)) s g ts := by
  obtain ⟨hown, hb, g5, c5, rfl, hne⟩ := h
  have hlt := hown.lt g5 rfl
  refine ⟨w1.heap.size, g5, c5, rfl, hb.size, hlt.1, by simp, by simp; omega, cell_of_row _ _ _ _ _ _ (heap_alloc_new w1 _), cell_of_row _ _ _ _ _ _ (heap_alloc_new w1 _), fun k hk => ?_⟩
  rcases hown.2 with ⟨e, _⟩ | ⟨g, cap, cur, e, h1, hg, hn, hm, hs, ht⟩
  · cases e
  · injection e with e1 e2 e3
    injection e1 with e1
    injection e1 with e1
    subst e1 e3
    have hl := lv_at s ts ts.length k hk
    have hg' := (heap_alloc_old w1 (.cells #[.int .i64 g, .slice (some ⟨g5, 0, none⟩) ts.length c5] 54) hlt.2).trans hg
    have key : ∀ i, i < ts.length * 3 → (lv s ts ts.length)[i]? = cur[i]? := fun i hi => by rw [← ht, List.getElem?_take, if_pos hi, Array.getElem?_toList]
    rw [key _ (by omega), key _ (by omega), key _ (by omega)] at hl
    exact ⟨(cell_of_row _ _ _ _ _ _ hg').trans hl.1, (cell_of_row _ _ _ _ _ _ hg').trans hl.2.1, (cell_of_row _ _ _ _ _ _ hg').trans hl.2.2⟩

/-- Why there is no clock. -/
def newE (s g : Int) (ts : List (Int × Int)) : Int :=
  if 64 < ts.length then 4 else if ts.length = 0 ∨ tA ts 0 ≠ 0 ∨ g < 1 ∨ 1000 < g ∨ s < -1152921504606846976 ∨ 1152921504606846976 < s then 1 else chkFrom (-1) ts
def NewPost (w : World) (s g : Int) (ts : List (Int × Int)) (e : Ending) (w' : World) : Prop :=
  (newE s g ts ≠ 0 → e = .returned (.tuple #[.pointer none, .int .i64 (newE s g ts)])) ∧ (newE s g ts = 0 → ∃ v, e = .returned (.tuple #[v, .int .i64 0]) ∧ Clk w.heap.size w' v s g ts) ∧ Below w.heap.size w w'

theorem new_many (p : Option Addr) (n c : Nat) (s g : Int) (w : World) (h : 64 < n) :
    Calls Try.prog 9 #[.int .i64 s, .int .i64 g, .slice p n c] w fun e w' => e = .returned (.tuple #[.pointer none, .int .i64 4]) ∧ Below w.heap.size w w' := by
  have d1 : decide ((64 : Int) < (n : Int)) = true := decide_eq_true (by omega)
  go_enter Try.func9, Try.ntmps9
  go_wp2_with fail
  go_ret2
  exact ⟨rfl, bRef w⟩
theorem new_none (p : Option Addr) (c : Nat) (s g : Int) (w : World) :
    Calls Try.prog 9 #[.int .i64 s, .int .i64 g, .slice p 0 c] w fun e w' => e = .returned (.tuple #[.pointer none, .int .i64 1]) ∧ Below w.heap.size w w' := by
  go_enter Try.func9, Try.ntmps9
  go_wp2_with fail
  go_ret2
  exact ⟨rfl, bRef w⟩
set_option maxHeartbeats 1000000 in
theorem new_arg (b o n c : Nat) (s g a : Int) (w : World) (hn : n ≤ 64) (h0 : 0 < n) (hc : w.cell? ⟨b, o, none⟩ = some (.int .i64 a)) (h : a ≠ 0 ∨ g < 1 ∨ 1000 < g ∨ s < -1152921504606846976 ∨ 1152921504606846976 < s) :
    Calls Try.prog 9 #[.int .i64 s, .int .i64 g, .slice (some ⟨b, o, none⟩) n c] w fun e w' => e = .returned (.tuple #[.pointer none, .int .i64 1]) ∧ Below w.heap.size w w' := by
  have d1 : decide ((64 : Int) < (n : Int)) = false := decide_eq_false (by omega)
  have d2 : ((n : Int) == 0) = false := by rw [beq_eq_false_iff_ne]; omega
  by_cases ha : a = 0
  · subst ha
    by_cases h1 : g < 1
    · have d3 : decide (g < 1) = true := decide_eq_true h1
      clear h
      go_enter Try.func9, Try.ntmps9
      go_wp2_with fail
      go_ret2
      exact ⟨rfl, bRef w⟩
    have d3 : decide (g < 1) = false := decide_eq_false h1
    by_cases h2 : 1000 < g
    · have d4 : decide (1000 < g) = true := decide_eq_true h2
      clear h
      go_enter Try.func9, Try.ntmps9
      go_wp2_with fail
      go_ret2
      exact ⟨rfl, bRef w⟩
    have d4 : decide (1000 < g) = false := decide_eq_false h2
    by_cases h3 : s < -1152921504606846976
    · have d5 : decide (s < -1152921504606846976) = true := decide_eq_true h3
      clear h
      go_enter Try.func9, Try.ntmps9
      go_wp2_with fail
      go_ret2
      exact ⟨rfl, bRef w⟩
    have d5 : decide (s < -1152921504606846976) = false := decide_eq_false h3
    have d6 : decide (1152921504606846976 < s) = true := decide_eq_true (by omega)
    clear h h1 h2 h3
    go_enter Try.func9, Try.ntmps9
    go_wp2_with fail
    go_ret2
    exact ⟨rfl, bRef w⟩
  · have d3 : (a != 0) = true := by rw [bne_iff_ne]; exact ha
    clear h ha
    go_enter Try.func9, Try.ntmps9
    go_wp2_with fail
    go_ret2
    exact ⟨rfl, bRef w⟩
set_option maxHeartbeats 1000000 in
theorem new_turns (b o c : Nat) (s g x : Int) (ts : List (Int × Int)) (w : World) (hn : ts.length ≤ 64) (h0 : 0 < ts.length) (hr : RdT w b o ts) (hf : tA ts 0 = 0) (h1 : 1 ≤ g) (h2 : g ≤ 1000) (h3 : -1152921504606846976 ≤ s) (h4 : s ≤ 1152921504606846976) (hx : chkFrom (-1) ts = x) (hx0 : x ≠ 0) :
    Calls Try.prog 9 #[.int .i64 s, .int .i64 g, .slice (some ⟨b, o, none⟩) ts.length c] w fun e w' => e = .returned (.tuple #[.pointer none, .int .i64 x]) ∧ Below w.heap.size w w' := by
  have HC := check_some b o c ts w hr (by omega)
  rw [hx] at HC
  have hc := (hr.2 0 h0).1
  rw [hf] at hc
  rw [show o + 0 * 2 = o by omega] at hc
  have d1 : decide ((64 : Int) < (ts.length : Int)) = false := decide_eq_false (by omega)
  have d2 : ((ts.length : Int) == 0) = false := by rw [beq_eq_false_iff_ne]; omega
  have d3 : decide (g < 1) = false := decide_eq_false (by omega)
  have d4 : decide (1000 < g) = false := decide_eq_false (by omega)
  have d5 : decide (s < -1152921504606846976) = false := decide_eq_false (by omega)
  have d6 : decide (1152921504606846976 < s) = false := decide_eq_false (by omega)
  have d7 : (x != 0) = true := by rw [bne_iff_ne]; exact hx0
  generalize ts.length = n at *
  clear hx hx0 hf hr
  go_enter Try.func9, Try.ntmps9
  go_wp2_with (go_at_call 20; (with_reducible refine HC.mono ?_); rintro e w1 ⟨rfl, hb⟩)
  go_ret2
  exact ⟨rfl, hb⟩
set_option maxHeartbeats 1000000 in
theorem new_ok (b o c : Nat) (s g : Int) (ts : List (Int × Int)) (w : World) (hg : Good ts) (hr : RdT w b o ts) (h1 : 1 ≤ g) (h2 : g ≤ 1000) (h3 : -1152921504606846976 ≤ s) (h4 : s ≤ 1152921504606846976) (hx : chkFrom (-1) ts = 0) :
    Calls Try.prog 9 #[.int .i64 s, .int .i64 g, .slice (some ⟨b, o, none⟩) ts.length c] w fun e w' => ∃ v, e = .returned (.tuple #[v, .int .i64 0]) ∧ Clk w.heap.size w' v s g ts ∧ Below w.heap.size w w' := by
  have hn := hg.len
  have h0 := hg.pos
  have HC := check_some b o c ts w hr (by omega)
  rw [hx] at HC
  have hc := (hr.2 0 h0).1
  rw [hg.first] at hc
  rw [show o + 0 * 2 = o by omega] at hc
  have d1 : decide ((64 : Int) < (ts.length : Int)) = false := decide_eq_false (by omega)
  have d2 : ((ts.length : Int) == 0) = false := by rw [beq_eq_false_iff_ne]; omega
  have d3 : decide (g < 1) = false := decide_eq_false (by omega)
  have d4 : decide (1000 < g) = false := decide_eq_false (by omega)
  have d5 : decide (s < -1152921504606846976) = false := decide_eq_false (by omega)
  have d6 : decide (1152921504606846976 < s) = false := decide_eq_false (by omega)
  have HL : Hid (∀ w1, Below w.heap.size w w1 → Calls Try.prog 21 #[.int .i64 s, .slice (some ⟨b, o, none⟩) ts.length c] w1 fun e w' => ∃ v g6, e = .returned v ∧ OwnL w1 g6 w' v s ts ts.length) :=
    Lib.hid (fun w1 hb => legs_some b o c s ts w1 hg ⟨h3, h4⟩ (hr.below hb))
  have H0 := Lib.hid h0
  obtain ⟨n, hn'⟩ : ∃ n, n = ts.length := ⟨_, rfl⟩
  have HN := Lib.hid hn'
  rw [← hn'] at HC d1 d2 HL H0 hn h0 ⊢
  clear hx hg hr hn'
  go_enter Try.func9, Try.ntmps9
  go_wp2_with (first
    | (go_at_call 20; (with_reducible refine HC.mono ?_); rintro e w1 ⟨rfl, hb⟩; have HB1 := Lib.hid hb; clear hb)
    | (go_at_call 21; (with_reducible refine (HL.out _ HB1.out).mono ?_); rintro e w2 ⟨v2, g6, rfl, hown⟩; obtain ⟨g5, c5, rfl, _⟩ := hown.2.2; have HO := Lib.hid hown; clear hown))
  go_ret2
  refine ⟨_, rfl, ?_, ?_⟩
  · have h := HO.out
    obtain rfl := HN.out
    obtain ⟨b, l, c, e, k1, k2, k3⟩ := clk_new (g := g) h H0.out
    exact ⟨b, l, c, e, Nat.le_trans HB1.out.size k1, Nat.le_trans HB1.out.size k2, k3⟩
  · exact bAl (bTr HB1.out HO.out.2.1) _

theorem new_any {v : Value} {s g : Int} {ts : List (Int × Int)} {w : World} (h : TArg w v ts) :
    Calls Try.prog 9 #[.int .i64 s, .int .i64 g, v] w (NewPost w s g ts) := by
  have key : ∀ x, newE s g ts = x → x ≠ 0 → (Calls Try.prog 9 #[.int .i64 s, .int .i64 g, v] w fun e w' => e = .returned (.tuple #[.pointer none, .int .i64 x]) ∧ Below w.heap.size w w') → Calls Try.prog 9 #[.int .i64 s, .int .i64 g, v] w (NewPost w s g ts) := by
    intro x hx h0 hc
    refine hc.mono fun e w' hh => ⟨fun _ => by rw [hx]; exact hh.1, fun h1 => absurd (hx.symm.trans h1) h0, hh.2⟩
  by_cases h64 : 64 < ts.length
  · obtain ⟨p, c, rfl⟩ := h.slice
    exact key 4 (by unfold newE; rw [if_pos h64]) (by decide) (new_many p _ c s g w h64)
  rcases h.2 with ⟨rfl, p, c, rfl, _⟩ | ⟨h0, b, o, c, rfl, hc, hr⟩
  · exact key 1 (by unfold newE; rw [if_neg h64, if_pos (.inl rfl)]) (by decide) (new_none p c s g w)
  · by_cases h1 : tA ts 0 ≠ 0 ∨ g < 1 ∨ 1000 < g ∨ s < -1152921504606846976 ∨ 1152921504606846976 < s
    · have hc0 := (hr.2 0 h0).1
      rw [show o + 0 * 2 = o by omega] at hc0
      exact key 1 (by unfold newE; rw [if_neg h64, if_pos (.inr h1)]) (by decide) (new_arg b o ts.length c s g _ w (by omega) h0 hc0 h1)
    · have hE : newE s g ts = chkFrom (-1) ts := by
        unfold newE
        rw [if_neg h64, if_neg (fun h2 => h2.elim (fun h3 => absurd h3 (by omega)) h1)]
      have hf : tA ts 0 = 0 := Classical.byContradiction fun hh => h1 (.inl hh)
      have h2 : 1 ≤ g ∧ g ≤ 1000 ∧ -1152921504606846976 ≤ s ∧ s ≤ 1152921504606846976 := by omega
      by_cases hx : chkFrom (-1) ts = 0
      · have hg := good_of hx h0 (by omega) hf
        refine (new_ok b o c s g ts w hg hr h2.1 h2.2.1 h2.2.2.1 h2.2.2.2 hx).mono fun e w' hh => ?_
        obtain ⟨v, rfl, k1, k2⟩ := hh
        exact ⟨fun h => absurd (hE.trans hx) h, fun _ => ⟨v, rfl, k1⟩, k2⟩
      · exact key _ hE hx (new_turns b o c s g _ ts w (by omega) h0 hr hf h2.1 h2.2.1 h2.2.2.1 h2.2.2.2 rfl hx)
theorem newE_zero {s g : Int} {ts : List (Int × Int)} (h : newE s g ts = 0) : Good ts ∧ 1 ≤ g ∧ g ≤ 1000 ∧ -1152921504606846976 ≤ s ∧ s ≤ 1152921504606846976 := by
  unfold newE at h
  by_cases h64 : 64 < ts.length
  · rw [if_pos h64] at h; omega
  rw [if_neg h64] at h
  by_cases h1 : ts.length = 0 ∨ tA ts 0 ≠ 0 ∨ g < 1 ∨ 1000 < g ∨ s < -1152921504606846976 ∨ 1152921504606846976 < s
  · rw [if_pos h1] at h; omega
  rw [if_neg h1] at h
  exact ⟨good_of h (by omega) (by omega) (by omega), by omega, by omega, by omega, by omega⟩

end Go.Proofs.Ytffjbngelapmmaa
