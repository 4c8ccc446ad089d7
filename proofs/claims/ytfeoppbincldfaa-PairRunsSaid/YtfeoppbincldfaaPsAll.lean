/- Package sync, whole: At, Fresh, Hold, Own, whatever a clock knows. -/
import Derived.Test.YtfeoppbincldfaaPsMath
namespace Go.Proofs.Ytfeoppbincldfaa
open Go.RowKit Go.Joins

/-- A difference, fit or not, and nothing else. -/
theorem subQ {a b : Int} (ha : In64 a) (hb : In64 b) (w : World) : Calls Try.prog 46 #[.int .i64 a, .int .i64 b] w fun e w' => e = .returned (.tuple #[.int .i64 (fitV (a - b)), .int .i64 (fitE (a - b))]) ∧ w' = w := by
  unfold In64 at ha hb
  have H := subq_go a b _ _ _ rfl rfl rfl w
  unfold fitV fitE
  cases h : InB (a - b)
  · have hf := inB_false h
    have e : (decide (a < wrap64 (a - b)) != decide (b < 0)) = true := by
      rw [bne_iff_ne, ne_eq, decide_eq_decide]; unfold wrap64; omega
    rw [e] at H
    exact H
  · have ht := inB_true h
    unfold In64 at ht
    have e2 : wrap64 (a - b) = a - b := by unfold wrap64; omega
    have e : (decide (a < a - b) != decide (b < 0)) = false := by
      rw [bne_eq_false_iff_eq, decide_eq_decide]; omega
    rw [e2, e] at H
    exact H
theorem fit_no {a : Int} (h : InB a = false) : fitV a = 0 ∧ fitE a = 10 := by unfold fitV fitE; rw [h]; exact ⟨rfl, rfl⟩
theorem fit_yes {a : Int} (h : InB a = true) : fitV a = a ∧ fitE a = 0 := by unfold fitV fitE; rw [h]; exact ⟨rfl, rfl⟩
theorem fitV_64 (a : Int) : In64 (fitV a) := by
  unfold fitV
  cases h : InB a with
  | false => exact in64_0
  | true => exact inB_true h
theorem rV_64 (a b c : Int) : In64 (rV a b c) := by
  unfold rV mdV mdOver
  by_cases h1 : (2 : Int) < 0 ∨ (2 : Int) < 2
  · omega
  rw [if_neg h1]
  by_cases h2 : c = 0
  · rw [if_pos h2]; exact in64_0
  rw [if_neg h2]
  cases hn : neg a b c with
  | true =>
    simp only [if_true]
    by_cases h3 : 9223372036854775808 < mdQ a b c 2
    · rw [decide_eq_true h3, if_pos rfl]; exact in64_0
    · rw [decide_eq_false h3, if_neg (by decide)]
      exact ⟨by omega, by omega⟩
  | false =>
    simp only [Bool.false_eq_true, if_false]
    by_cases h3 : 9223372036854775807 < mdQ a b c 2
    · rw [decide_eq_true h3, if_pos rfl]; exact in64_0
    · rw [decide_eq_false h3, if_neg (by decide)]
      exact ⟨by omega, by omega⟩
/-- Its times and its rate fit. -/
structure CS.Ok (s : CS) : Prop where
  here : In64 s.here
  there : In64 s.there
  rate : In64 s.rate
  came : In64 s.came
theorem CS.Ok.now {s : CS} (h : s.Ok) : In64 s.now := by
  unfold CS.now
  split
  · exact ⟨by decide, by decide⟩
  · exact h.rate
theorem CS.Ok.new (dom : Int) : (CS.new dom).Ok := ⟨in64_0, in64_0, show In64 2199023255552 from ⟨by decide, by decide⟩, in64_0⟩
theorem CS.Ok.knows {s : CS} (h : s.Ok) {x y r : Int} (hx : In64 x) (hy : In64 y) (hr : In64 r) : (s.knows x y r).Ok := ⟨hx, hy, hr, h.came⟩
/-- Whether a clock tells a time. -/
def CS.tells (s : CS) (x : Int) : Bool :=
  if s.known = true then InB (x - s.here) && ((rE s.now (x - s.here) 2199023255552 == 0) && InB (s.there + rV s.now (x - s.here) 2199023255552)) else s.own
/-- And which. -/
def CS.time (s : CS) (x : Int) : Int :=
  if s.known = true then (if s.tells x = true then s.there + rV s.now (x - s.here) 2199023255552 else 0) else if s.own = true then x else 0
theorem CS.time_64 {s : CS} {x : Int} (hx : In64 x) : In64 (s.time x) := by
  unfold CS.time
  split
  · rename_i hk
    split
    · rename_i h
      unfold CS.tells at h
      rw [if_pos hk, Bool.and_eq_true, Bool.and_eq_true] at h
      exact inB_true h.2.2
    · exact in64_0
  · split
    · exact hx
    · exact in64_0
section
variable {w : World} {b : Nat} {s : CS}
theorem at_any (h : Ck w b s) (hs : s.Ok) {x : Int} (hx : In64 x) : Calls Try.prog 25 #[.pointer (some ⟨b, 0, none⟩), .int .i64 x] w fun e w' => e = .returned (.tuple #[.int .i64 (s.time x), .bool (s.tells x)]) ∧ Below w.heap.size w w' := by
  cases hk : s.known with
  | false =>
    cases ho : s.own with
    | false =>
      have e1 : s.time x = 0 := by unfold CS.time; rw [hk, ho]; rfl
      have e2 : s.tells x = false := by unfold CS.tells; rw [hk, ho]; rfl
      rw [e1, e2]
      exact at_none h hk ho x
    | true =>
      have e1 : s.time x = x := by unfold CS.time; rw [hk, ho]; rfl
      have e2 : s.tells x = true := by unfold CS.tells; rw [hk, ho]; rfl
      rw [e1, e2]
      exact at_own h hk ho x
  | true =>
    have H1 := Lib.hid (fun W => subQ hx hs.here W)
    have H2 := Lib.hid (ratec_any h)
    have c2 := h.c2
    have c3 := h.c3
    rw [hk] at c2
    have hlt := h.lt
    have c4 := h.c4
    have hT : s.tells x = (InB (x - s.here) && ((rE s.now (x - s.here) 2199023255552 == 0) && InB (s.there + rV s.now (x - s.here) 2199023255552))) := by unfold CS.tells; rw [if_pos hk]
    have hU : s.time x = if s.tells x = true then s.there + rV s.now (x - s.here) 2199023255552 else 0 := by unfold CS.time; rw [if_pos hk]
    cases hd : InB (x - s.here) with
    | false =>
      rw [(fit_no hd).1, (fit_no hd).2] at H1
      rw [hd, Bool.false_and] at hT
      rw [hT] at hU ⊢
      rw [hU]
      clear hT hU hd h hs hk
      go_enter Try.func25, Try.ntmps25
      go_wp2_with (first
        | (go_at_call 46; (with_reducible refine (H1.out _).mono ?_); rintro e w1 ⟨rfl, rfl⟩))
      go_ret2
      exact ⟨rfl, bRef _⟩
    | true =>
      rw [(fit_yes hd).1, (fit_yes hd).2] at H1
      rw [hd, Bool.true_and] at hT
      have H3 := by_ret (inB_true hd) hs.now
      have i64 := rV_64 s.now (x - s.here) 2199023255552
      have it := hs.there
      clear hd hs hk
      generalize x - s.here = d at *
      generalize rV s.now d 2199023255552 = g at *
      generalize rE s.now d 2199023255552 = q at *
      cases hq : (q == 0) with
      | false =>
        rw [hq, Bool.false_and] at hT
        rw [hT] at hU ⊢
        rw [hU]
        have hq2 : (q != 0) = true := by rw [bne, hq]; rfl
        have H3' := Lib.hid H3
        clear hT hU H3 i64 it h
        go_enter Try.func25, Try.ntmps25
        go_wp2_with (first
          | (go_at_call 46; (with_reducible refine (H1.out _).mono ?_); rintro e w1 ⟨rfl, rfl⟩)
          | (go_at_call 48; (with_reducible refine (H2.out).mono ?_); rintro e w1 ⟨rfl, rfl⟩)
          | (go_at_call 47; (with_reducible refine (H3'.out.go _).mono ?_); rintro e w2 ⟨rfl, hb⟩; have HB := Lib.hid hb; clear hb))
        go_ret2
        exact ⟨rfl, HB.out⟩
      | true =>
        obtain rfl : q = 0 := by simpa using hq
        rw [hq, Bool.true_and] at hT
        have H4 := sAdd_ret it i64
        unfold Fit at H4
        have H3' := Lib.hid H3
        clear H3 i64 it h hq
        have hE : (fitE (s.there + g) == 0) = s.tells x := by
          rw [hT]; unfold fitE; cases InB (s.there + g) <;> rfl
        have hV : fitV (s.there + g) = s.time x := by
          rw [hU, hT]; unfold fitV; cases InB (s.there + g) <;> rfl
        rw [hV] at H4
        have H4' := Lib.hid H4
        clear hT hU hV H4
        generalize fitE (s.there + g) = ee at *
        generalize s.tells x = tl at *
        generalize s.time x = tm at *
        go_enter Try.func25, Try.ntmps25
        go_wp2_with (first
          | (go_at_call 46; (with_reducible refine (H1.out _).mono ?_); rintro e w1 ⟨rfl, rfl⟩)
          | (go_at_call 48; (with_reducible refine (H2.out).mono ?_); rintro e w1 ⟨rfl, rfl⟩)
          | (go_at_call 47; (with_reducible refine (H3'.out.go _).mono ?_); rintro e w2 ⟨rfl, hb⟩; have HB := Lib.hid hb; have k4 := (hb.cell (p := ⟨b, 4, none⟩) hlt).trans c4; clear hb)
          | (go_at_call 49; (with_reducible refine (H4'.out.go _).mono ?_); rintro e w3 ⟨rfl, hb⟩; have HB2 := Lib.hid (bTr HB.out hb); clear hb))
        go_ret2
        exact ⟨rfl, HB2.out⟩
/-- Whether its time was told not too long ago. -/
def CS.fresh (s : CS) (x most : Int) : Bool :=
  if s.own = true then true else if s.known = true then InB (x - s.here) && decide (x - s.here ≤ most) else false
theorem fresh_any (h : Ck w b s) (hs : s.Ok) {x : Int} (hx : In64 x) (y : Int) : Calls Try.prog 24 #[.pointer (some ⟨b, 0, none⟩), .int .i64 x, .int .i64 y] w fun e w' => e = .returned (.bool (s.fresh x y)) ∧ w' = w := by
  cases ho : s.own with
  | true =>
    have e : s.fresh x y = true := by unfold CS.fresh; rw [if_pos ho]
    rw [e]
    exact fresh_own h ho x y
  | false =>
    have c1 := h.c1
    have c2 := h.c2
    have c3 := h.c3
    rw [ho] at c1
    cases hk : s.known with
    | false =>
      have e : s.fresh x y = false := by unfold CS.fresh; rw [ho, hk]; rfl
      rw [e]
      rw [hk] at c2
      clear h hs e
      go_enter Try.func24, Try.ntmps24
      go_wp2_with fail
      go_ret
      exact ⟨rfl, rfl⟩
    | true =>
      rw [hk] at c2
      have H1 := Lib.hid (fun W => subQ hx hs.here W)
      have e : s.fresh x y = (InB (x - s.here) && decide (x - s.here ≤ y)) := by unfold CS.fresh; rw [ho, hk]; rfl
      rw [e]
      clear h hs e
      generalize x - s.here = d at *
      cases hd : InB d with
      | false =>
        rw [(fit_no hd).1, (fit_no hd).2] at H1
        clear hd
        go_enter Try.func24, Try.ntmps24
        go_wp2_with (first
          | (go_at_call 46; (with_reducible refine (H1.out _).mono ?_); rintro e w1 ⟨rfl, rfl⟩))
        go_ret
        exact ⟨rfl, rfl⟩
      | true =>
        rw [(fit_yes hd).1, (fit_yes hd).2] at H1
        clear hd
        go_enter Try.func24, Try.ntmps24
        go_wp2_with (first
          | (go_at_call 46; (with_reducible refine (H1.out _).mono ?_); rintro e w1 ⟨rfl, rfl⟩))
        go_ret
        exact ⟨rfl, rfl⟩
theorem hold_any (h : Ck w b s) (x y : Int) : Calls Try.prog 26 #[.pointer (some ⟨b, 0, none⟩), .int .i64 x, .int .i64 y] w fun e w' => e = .returned (.tuple #[]) ∧ LeaveC b w (s.knows x y s.rate) w' := by
  have HK := Lib.hid (know_any h x y s.rate)
  have c5 := h.c5
  clear h
  go_enter Try.func26, Try.ntmps26
  go_wp2_with (go_at_call 50; (with_reducible refine HK.out.mono ?_); rintro e w1 ⟨rfl, h1, hb⟩)
  go_end0
  exact ⟨rfl, h1, hb⟩
/-- What the own clock's being the domain's, or not any more, leaves. -/
def CS.owned (s : CS) (on : Bool) (x : Int) : CS :=
  if s.own = on then s else { (if s.tells x = true then s.knows x (s.time x) s.now else s) with own := on, opn := false }
theorem own_any (h : Ck w b s) (hs : s.Ok) (on : Bool) {x : Int} (hx : In64 x) : Calls Try.prog 30 #[.pointer (some ⟨b, 0, none⟩), .bool on, .int .i64 x] w fun e w' => e = .returned (.tuple #[]) ∧ LeaveC b w (s.owned on x) w' := by
  have c1 := h.c1
  by_cases ho : s.own = on
  · have e : s.owned on x = s := by unfold CS.owned; rw [if_pos ho]
    rw [e]
    rw [ho] at c1
    have H := Lib.hid h
    clear h hs e ho
    cases on
    all_goals
      go_enter Try.func30, Try.ntmps30
      go_wp2_with fail
      refine bodyPost_ret (results_none rfl _ _ _) rfl ?_
      exact ⟨rfl, H.out, ButB.refl b w⟩
  · have e : s.owned on x = { (if s.tells x = true then s.knows x (s.time x) s.now else s) with own := on, opn := false } := by unfold CS.owned; rw [if_neg ho]
    rw [e]
    have HA := Lib.hid (at_any h hs hx)
    have H := Lib.hid h
    have hlt := h.lt
    have d1 : (s.own == on) = false := by rw [beq_eq_false_iff_ne]; exact ho
    have HR : Hid (∀ W, Ck W b s → Calls Try.prog 48 #[.pointer (some ⟨b, 0, none⟩)] W fun e w' => e = .returned (.int .i64 s.now) ∧ w' = W) := Lib.hid (fun W h => ratec_any h)
    clear h hs ho e
    generalize s.now = r at *
    generalize s.time x = y at *
    cases ht : s.tells x with
    | false =>
      rw [ht] at HA
      clear ht
      go_enter Try.func30, Try.ntmps30
      go_wp2_with (go_at_call 25; (with_reducible refine HA.out.mono ?_); rintro e w1 ⟨rfl, hb⟩; have h1 := H.out.below hb; have k1 := h1.c1; have k6 := h1.c6; have kf := h1.fz; have s1 := h1.set 1 (.bool on) (s' := { s with own := on }) rfl; have HF := Lib.hid (s1.set 6 (.bool false) (s' := { s with own := on, opn := false }) rfl); have HG := Lib.hid (set_but (set_but (ButB.of_below (b := b) hb) 1 (.bool on)) 6 (.bool false)); clear hb h1 s1)
      go_end0
      exact ⟨rfl, HF.out, HG.out⟩
    | true =>
      rw [ht] at HA
      clear ht
      go_enter Try.func30, Try.ntmps30
      go_wp2_with (first
        | (go_at_call 25; (with_reducible refine HA.out.mono ?_); rintro e w1 ⟨rfl, hb⟩; have H1 := Lib.hid (H.out.below hb); have HG1 := Lib.hid (ButB.of_below (b := b) hb); clear hb)
        | (go_at_call 48; (with_reducible refine (HR.out _ H1.out).mono ?_); rintro e w2 ⟨rfl, rfl⟩)
        | (go_at_call 50; (with_reducible refine (know_any H1.out _ _ _).mono ?_); rintro e w3 ⟨rfl, h1, hb⟩; have k1 := h1.c1; have k6 := h1.c6; have kf := h1.fz; have s1 := h1.set 1 (.bool on) (s' := { s.knows x y r with own := on }) rfl; have HF := Lib.hid (s1.set 6 (.bool false) (s' := { s.knows x y r with own := on, opn := false }) rfl); have HG := Lib.hid (set_but (set_but (HG1.out.trans hb) 1 (.bool on)) 6 (.bool false)); clear hb h1 s1))
      go_end0
      exact ⟨rfl, HF.out, HG.out⟩
theorem CS.Ok.owned (hs : s.Ok) (on : Bool) {x : Int} (hx : In64 x) : (s.owned on x).Ok := by
  unfold CS.owned
  split
  · exact hs
  · split
    · exact ⟨hx, CS.time_64 hx, hs.now, hs.came⟩
    · exact ⟨hs.here, hs.there, hs.rate, hs.came⟩
end

end Go.Proofs.Ytfeoppbincldfaa
