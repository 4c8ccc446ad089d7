/- The reference's clock: its floor and grain; what it reckons of a leg. -/
import Derived.Test.YtffjbngelapmmaaOsNew
namespace Go.Proofs.Ytffjbngelapmmaa
open Go.RowKit Go.Joins

theorem refFloor_ret {a c : Int} (ha : In64 a) (hc : In64 c) (hc0 : 0 < c) : Ret 36 #[.int .i64 a, .int .i64 c] (.int .i64 (a / c)) := fun w => by
  have HM := refDown_ret ha hc hc0
  generalize a / c = q at *
  go_enter Try.func36, Try.ntmps36
  go_wp2_with (go_at_call 35; (with_reducible refine (HM.go _).mono ?_); rintro e wx ⟨rfl, hb⟩)
  go_ret
  exact ⟨rfl, hb⟩
theorem refGrain_arg (s g : Int) (h : g < 1 ∨ 1048576 < g) (w : World) :
    Calls Try.prog 29 #[.int .i64 s, .int .i64 g] w fun e w' => e = .returned (.tuple #[.int .i64 0, .int .i64 1]) ∧ Below w.heap.size w w' := by
  rcases h with h | h
  · go_enter Try.func29, Try.ntmps29
    go_wp2_with fail
    go_ret2
    exact ⟨rfl, bRef w⟩
  · have h0 : ¬ g < 1 := by omega
    go_enter Try.func29, Try.ntmps29
    go_wp2_with fail
    go_ret2
    exact ⟨rfl, bRef w⟩
theorem refGrain_go (s g G q v x : Int) (h1 : 1 ≤ g) (h2 : g ≤ 1048576) (hG : g * 65536 = G) (HF : Ret 36 #[.int .i64 s, .int .i64 G] (.int .i64 q))
    (HM : Ret 35 #[.int .i64 q, .int .i64 G, .int .i64 1, .int .i64 0] (.tuple #[.int .i64 v, .int .i64 x])) (w : World) :
    Calls Try.prog 29 #[.int .i64 s, .int .i64 g] w fun e w' => e = .returned (.tuple #[.int .i64 v, .int .i64 x]) ∧ Below w.heap.size w w' := by
  have HW := bRef w
  go_enter Try.func29, Try.ntmps29
  go_wp2_with (first
    | (go_at_call 36; (with_reducible refine (HF.go _).mono ?_); rintro e wx ⟨rfl, hb⟩; replace HW := bTr' HW hb; clear hb)
    | (go_at_call 35; (with_reducible refine (HM.go _).mono ?_); rintro e wx ⟨rfl, hb⟩; replace HW := bTr' HW hb; clear hb))
  go_ret2
  exact ⟨rfl, HW⟩
theorem refGrain_ret {s g : Int} (hs : In64 s) (h1 : 1 ≤ g) (h2 : g ≤ 1048576) : Ret 29 #[.int .i64 s, .int .i64 g] (Fit (s - s % (g * 65536))) := fun w => by
  obtain ⟨G, hG⟩ : ∃ G, g * 65536 = G := ⟨_, rfl⟩
  have hG0 : 0 < G := by omega
  have HF := refFloor_ret hs (c := G) ⟨by omega, by omega⟩ hG0
  have hq : In64 (s / G) := by
    unfold In64 at hs ⊢
    have e1 := Int.emod_add_mul_ediv s G
    have e2 := Int.emod_nonneg s (show G ≠ 0 by omega)
    have e3 := Int.emod_lt_of_pos s hG0
    constructor
    · refine Int.le_ediv_of_mul_le hG0 ?_
      have := Int.mul_le_mul_of_nonneg_left (show (1 : Int) ≤ G by omega) (show (0 : Int) ≤ 9223372036854775808 by omega)
      omega
    · refine Int.ediv_lt_of_lt_mul hG0 ?_
      have := Int.mul_le_mul_of_nonneg_left (show (1 : Int) ≤ G by omega) (show (0 : Int) ≤ 9223372036854775808 by omega)
      omega
  have HM := refTimes_ret hq (b := G) ⟨by omega, by omega⟩ hG0
  rw [show s / G * G = s - s % G by have := Int.emod_add_mul_ediv s G; rw [Int.mul_comm G] at this; omega] at HM
  rw [hG]
  exact refGrain_go s g G _ _ _ h1 h2 hG HF HM w

theorem rrun_ret {d r : Int} (h0 : 0 ≤ d) (h1 : d ≤ 1099511627776) (h2 : 0 ≤ r) (h3 : r ≤ 2216203124736) : Ret 28 #[.int .i64 d, .int .i64 r] (.int .i64 (run d r)) := fun w => by
  have hq : d * r / 33554432 < 9223372036854775808 := by
    have := run_hi h0 h3
    unfold run at this
    omega
  have H : Ret 35 #[.int .i64 d, .int .i64 r, .int .i64 33554432, .int .i64 0] (.tuple #[.int .i64 (run d r), .int .i64 0]) := by
    have H := refmd_ret (a := d) (b := r) (c := 33554432) 0 ⟨by omega, by omega⟩ ⟨by omega, by omega⟩ ⟨by omega, by omega⟩
    rw [(md_quot h0 h2 (by omega) hq).1, (md_quot h0 h2 (by omega) hq).2] at H
    exact H
  generalize run d r = q at *
  clear hq
  go_enter Try.func28, Try.ntmps28
  go_wp2_with (go_at_call 35; (with_reducible refine (H.go _).mono ?_); rintro e wx ⟨rfl, hb⟩)
  go_ret
  exact ⟨rfl, hb⟩
theorem right_ret (r : Int) : RetQ 22 #[.int .i64 r] (.bool (decide (2181843386368 ≤ r) && decide (r ≤ 2216203124736))) := fun w => by
  cases h1 : decide (2181843386368 ≤ r) <;> cases h2 : decide (r ≤ 2216203124736)
  all_goals
    go_enter Try.func22, Try.ntmps22
    go_wp2_with fail
    go_ret
    exact ⟨rfl, rfl⟩

/-- Ints in a row. -/
def IArg (w : World) (v : Value) (xs : List Int) : Prop :=
  (xs = [] ∧ ∃ p c, v = .slice p 0 c) ∨ (0 < xs.length ∧ ∃ b c, v = .slice (some ⟨b, 0, none⟩) xs.length c ∧ b < w.heap.size ∧ ∀ k, k < xs.length → w.cell? ⟨b, k, none⟩ = some (.int .i64 (xs.getD k 0)))
theorem IArg.below {w w' : World} {v : Value} {xs : List Int} (h : IArg w v xs) (hb : Below w.heap.size w w') : IArg w' v xs := by
  rcases h with h | ⟨h0, b, c, e, hlt, hc⟩
  · exact .inl h
  · exact .inr ⟨h0, b, c, e, Nat.lt_of_lt_of_le hlt hb.size, fun k hk => (hb.cell hlt).trans (hc k hk)⟩
theorem IArg.slice {w : World} {v : Value} {xs : List Int} (h : IArg w v xs) : ∃ p c, v = .slice p xs.length c := by
  rcases h with ⟨rfl, p, c, rfl⟩ | ⟨h0, b, c, e, _⟩
  · exact ⟨p, c, rfl⟩
  · exact ⟨_, c, e⟩
def iA (ts : List (Int × Int)) : List Int := ts.map (·.1)
def iR (ts : List (Int × Int)) : List Int := ts.map (·.2)
theorem iA_at {ts : List (Int × Int)} {k : Nat} (h : k < ts.length) : (iA ts).getD k 0 = tA ts k := by unfold iA tA; rw [List.getD_eq_getElem?_getD, List.getElem?_map, List.getD_eq_getElem?_getD, List.getElem?_eq_getElem h]; rfl
theorem iR_at {ts : List (Int × Int)} {k : Nat} (h : k < ts.length) : (iR ts).getD k 0 = tR ts k := by unfold iR tR; rw [List.getD_eq_getElem?_getD, List.getElem?_map, List.getD_eq_getElem?_getD, List.getElem?_eq_getElem h]; rfl
/-- The reference's clock as a value: its cells, what its slices hold. -/
def RClk (w : World) (va vr : Value) (ts : List (Int × Int)) : Prop := IArg w va (iA ts) ∧ IArg w vr (iR ts)
theorem RClk.below {w w' : World} {va vr : Value} {ts : List (Int × Int)} (h : RClk w va vr ts) (hb : Below w.heap.size w w') : RClk w' va vr ts := ⟨h.1.below hb, h.2.below hb⟩
theorem RClk.cells {w : World} {va vr : Value} {ts : List (Int × Int)} (h : RClk w va vr ts) (h0 : 0 < ts.length) : ∃ a r c d, va = .slice (some ⟨a, 0, none⟩) ts.length c ∧ vr = .slice (some ⟨r, 0, none⟩) ts.length d ∧ a < w.heap.size ∧ r < w.heap.size ∧ ∀ k, k < ts.length → w.cell? ⟨a, k, none⟩ = some (.int .i64 (tA ts k)) ∧ w.cell? ⟨r, k, none⟩ = some (.int .i64 (tR ts k)) := by
  have la : (iA ts).length = ts.length := by simp [iA]
  have lr : (iR ts).length = ts.length := by simp [iR]
  rcases h.1 with ⟨e, _⟩ | ⟨_, a, c, e1, h1, h2⟩
  · rw [e] at la; simp at la; omega
  rcases h.2 with ⟨e, _⟩ | ⟨_, r, d, e2, h3, h4⟩
  · rw [e] at lr; simp at lr; omega
  rw [la] at e1 h2
  rw [lr] at e2 h4
  exact ⟨a, r, c, d, e1, e2, h1, h3, fun k hk => ⟨by rw [h2 k hk, iA_at hk], by rw [h4 k hk, iR_at hk]⟩⟩

/-- The reference's rate. -/
def RtRel (w0 : World) (ts : List (Int × Int)) (x : Int) (rv kv : Value) : Prop := ∃ k : Nat, k ≤ ts.length ∧ kv = .int .i64 (k : Int) ∧ rv = .int .i64 (if k = 0 then 0 else tR ts (min (ix ts x) (k - 1)))
theorem rt_step {ts : List (Int × Int)} (g : Good ts) {x : Int} (hx : 0 ≤ x) {k : Nat} (hk : k < ts.length) (old : Int) (ho : old = if k = 0 then 0 else tR ts (min (ix ts x) (k - 1))) :
    (if tA ts k ≤ x then tR ts k else old) = tR ts (min (ix ts x) k) := by
  have hl := leg_ix g hx
  rcases Nat.lt_or_ge (ix ts x) k with h | h
  · have h1 := hl.2.2 k h hk
    rw [if_neg (by omega), ho, if_neg (by omega)]
    congr 1
    omega
  · have h1 := g.mono (ix ts x) k h hl.1
    have h2 := hl.2.1
    rw [if_pos (by omega)]
    congr 1
    omega
theorem box4 (w : World) (x0 x1 x2 x3 : Value) :
    (w.alloc (.cells #[x0, x1, x2, x3] 34)).cell? ⟨w.heap.size, 0, none⟩ = some x0 ∧ (w.alloc (.cells #[x0, x1, x2, x3] 34)).cell? ⟨w.heap.size, 1, none⟩ = some x1 ∧ (w.alloc (.cells #[x0, x1, x2, x3] 34)).cell? ⟨w.heap.size, 2, none⟩ = some x2 ∧ (w.alloc (.cells #[x0, x1, x2, x3] 34)).cell? ⟨w.heap.size, 3, none⟩ = some x3 :=
  ⟨cell_of_row _ _ _ _ _ _ (heap_alloc_new w _), cell_of_row _ _ _ _ _ _ (heap_alloc_new w _), cell_of_row _ _ _ _ _ _ (heap_alloc_new w _), cell_of_row _ _ _ _ _ _ (heap_alloc_new w _)⟩
set_option maxHeartbeats 1000000 in
theorem rrate_ok {va vr : Value} {s g : Int} {ts : List (Int × Int)} {w : World} (h : RClk w va vr ts) (hg : Good ts) (x : Int) (h0 : 0 ≤ x) :
    Calls Try.prog 18 #[.agg #[.int .i64 s, .int .i64 g, va, vr], .int .i64 x] w fun e w' => e = .returned (.int .i64 (tR ts (ix ts x))) ∧ Below w.heap.size w w' := by
  obtain ⟨a, r, c, d, rfl, rfl, hla, hlr, hc⟩ := h.cells hg.pos
  obtain ⟨n, hn⟩ : ∃ n, ts.length = n := ⟨_, rfl⟩
  have HN := Lib.hid hn
  have HC := Lib.hid hc
  have HG := Lib.hid hg
  have hn64 : n ≤ 64 := by rw [← hn]; exact hg.len
  rw [hn]
  clear h hc hg hn
  have HB : Below w.heap.size w (w.alloc (.cells #[.int .i64 s, .int .i64 g, .slice (some ⟨a, 0, none⟩) n c, .slice (some ⟨r, 0, none⟩) n d] 34)) := bAl (bRef w) _
  obtain ⟨c0, c1, c2, c3⟩ := box4 w (.int .i64 s) (.int .i64 g) (.slice (some ⟨a, 0, none⟩) n c) (.slice (some ⟨r, 0, none⟩) n d)
  have HC2 := Lib.hid (fun k hk => (⟨(HB.cell hla).trans (HC.out k hk).1, (HB.cell hlr).trans (HC.out k hk).2⟩ : _ ∧ _))
  replace HB := Lib.hid HB
  clear HC
  go_enter Try.func18, Try.ntmps18
  go_wp2_with fail
  go_loopw [5, 10] (fun rv kv wr => RtRel w ts x rv kv ∧ wr = w.alloc (.cells #[.int .i64 s, .int .i64 g, .slice (some ⟨a, 0, none⟩) n c, .slice (some ⟨r, 0, none⟩) n d] 34)) (fun _ kv _ => n - (intOf kv).toNat)
  case atStart => exact ⟨⟨0, by omega, rfl, rfl⟩, rfl⟩
  case round =>
    obtain ⟨⟨k, hk, rfl, rfl⟩, rfl⟩ := hrel
    rw [HN.out] at hk
    obtain ⟨old, ho⟩ : ∃ old, old = (if k = 0 then 0 else tR ts (min (ix ts x) (k - 1))) := ⟨_, rfl⟩
    rw [← ho]
    have HO := Lib.hid ho
    clear ho
    rcases Nat.lt_or_ge k n with hlt | hge
    · have hd : decide ((k : Int) < (n : Int)) = true := decide_eq_true (by omega)
      obtain ⟨e1, e2⟩ := HC2.out k (by rw [HN.out]; exact hlt)
      have hs := rt_step HG.out h0 (by rw [HN.out]; exact hlt) old HO.out
      generalize tA ts k = ta at *
      generalize htr : tR ts k = tr at *
      have HS := Lib.hid hs
      have HT := Lib.hid htr
      clear htr
      by_cases hh : ta ≤ x
      · have hq : decide (ta ≤ x) = true := decide_eq_true hh
        rw [if_pos hh] at hs
        replace HS := Lib.hid hs
        clear hs hh
        go_wp2_with fail
        go_roundw
        case rel => exact ⟨⟨k + 1, by rw [HN.out]; omega, by go_num, by rw [if_neg (by omega), Nat.add_sub_cancel, ← HS.out]⟩, trivial⟩
        case measure => simp [intOf]; omega
      · have hq : decide (ta ≤ x) = false := decide_eq_false hh
        rw [if_neg hh] at hs
        replace HS := Lib.hid hs
        clear hs hh
        go_wp2_with fail
        go_roundw
        case rel => exact ⟨⟨k + 1, by rw [HN.out]; omega, by go_num, by rw [if_neg (by omega), Nat.add_sub_cancel, ← HS.out]⟩, trivial⟩
        case measure => simp [intOf]; omega
    · obtain rfl : k = n := by omega
      have hd : decide ((k : Int) < (k : Int)) = false := decide_eq_false (by omega)
      have hl := (leg_ix HG.out h0).1
      have hp := HG.out.pos
      have he : old = tR ts (ix ts x) := by rw [HO.out, if_neg (by rw [HN.out] at hp; omega), Nat.min_eq_left (by rw [HN.out] at hl; omega)]
      have HE := Lib.hid he
      clear hl hp he
      go_wp2_with fail
      go_ret
      exact ⟨by rw [HE.out]; rfl, HB.out⟩

end Go.Proofs.Ytffjbngelapmmaa
