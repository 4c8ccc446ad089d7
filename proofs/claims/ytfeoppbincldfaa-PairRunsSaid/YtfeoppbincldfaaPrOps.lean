/- Package pair: Fresh, hold, Pick. -/
import Derived.Test.YtfeoppbincldfaaPrMem
import Derived.Deep.QuietTactic
import Derived.LoopN
namespace Go.Proofs.Ytfeoppbincldfaa
open Go.RowKit Go.Joins

section
variable {w : World} {p k0 k1 : Nat} {s : PP}
/-- Whether a domain's time was told not too long ago. -/
def PP.fresh (s : PP) (d x : Int) : Bool := if d = 0 then s.a.fresh x s.most else if d = 1 then s.b.fresh x s.most else false
theorem pfresh_zero (h : Pw w p k0 k1 s) (hs : s.Ok) {x : Int} (hx : In64 x) : Calls Try.prog 19 #[.pointer (some ⟨p, 0, none⟩), .int .i64 0, .int .i64 x] w fun e w' => e = .returned (.bool (s.a.fresh x s.most)) ∧ ∃ n, w' = w.drewN n := by
  have H1 := Lib.hid (fun W (h : Pw W p k0 k1 s) => clock_zero h)
  have H2 := Lib.hid (fun W (h : Pw W p k0 k1 s) => fresh_any h.c0 hs.a hx s.most)
  have HD := Lib.hid (fun n => h.drewN n)
  have HH := Lib.hid h
  have c2 := h.p2
  clear h hs hx
  generalize s.a.fresh x s.most = q at *
  go_enter Try.func19, Try.ntmps19
  go_wp2_with fail
  go_quiet ((first
    | (go_at_call 43; exact Calls.quiet_of_same (H1.out _ (HD.out _)))
    | (go_at_call 24; exact Calls.quiet_of_same (H2.out _ (HD.out _)))))
  go_wp2_with fail
  go_ret
  exact ⟨rfl, _, rfl⟩
theorem pfresh_one (h : Pw w p k0 k1 s) (hs : s.Ok) {x : Int} (hx : In64 x) : Calls Try.prog 19 #[.pointer (some ⟨p, 0, none⟩), .int .i64 1, .int .i64 x] w fun e w' => e = .returned (.bool (s.b.fresh x s.most)) ∧ ∃ n, w' = w.drewN n := by
  have H1 := Lib.hid (fun W (h : Pw W p k0 k1 s) => clock_one h)
  have H2 := Lib.hid (fun W (h : Pw W p k0 k1 s) => fresh_any h.c1 hs.b hx s.most)
  have HD := Lib.hid (fun n => h.drewN n)
  have HH := Lib.hid h
  have c2 := h.p2
  clear h hs hx
  generalize s.b.fresh x s.most = q at *
  go_enter Try.func19, Try.ntmps19
  go_wp2_with fail
  go_quiet ((first
    | (go_at_call 43; exact Calls.quiet_of_same (H1.out _ (HD.out _)))
    | (go_at_call 24; exact Calls.quiet_of_same (H2.out _ (HD.out _)))))
  go_wp2_with fail
  go_ret
  exact ⟨rfl, _, rfl⟩
theorem pfresh_out (h : Pw w p k0 k1 s) {x : Int} {d : Int} (hd : (decide (d = 0) || decide (d = 1)) = false) : Calls Try.prog 19 #[.pointer (some ⟨p, 0, none⟩), .int .i64 d, .int .i64 x] w fun e w' => e = .returned (.bool (false)) ∧ ∃ n, w' = w.drewN n := by
  have H1 := Lib.hid (fun W (h : Pw W p k0 k1 s) => clock_out p W hd)
  have H2 := Lib.hid (fun W (h : Pw W p k0 k1 s) => nil_fresh x s.most W)
  have HD := Lib.hid (fun n => h.drewN n)
  have HH := Lib.hid h
  have c2 := h.p2
  clear h 
  go_enter Try.func19, Try.ntmps19
  go_wp2_with fail
  go_quiet ((first
    | (go_at_call 43; exact Calls.quiet_of_same (H1.out _ (HD.out _)))
    | (go_at_call 24; exact Calls.quiet_of_same (H2.out _ (HD.out _)))))
  go_wp2_with fail
  go_ret
  exact ⟨rfl, _, rfl⟩
theorem pfresh_any (h : Pw w p k0 k1 s) (hs : s.Ok) {x : Int} (hx : In64 x) (d : Int) : Calls Try.prog 19 #[.pointer (some ⟨p, 0, none⟩), .int .i64 d, .int .i64 x] w fun e w' => e = .returned (.bool (s.fresh d x)) ∧ ∃ n, w' = w.drewN n := by
  unfold PP.fresh
  by_cases h0 : d = 0
  · subst h0; rw [if_pos rfl]; exact pfresh_zero h hs hx
  · by_cases h1 : d = 1
    · subst h1; rw [if_neg (by decide), if_pos rfl]; exact pfresh_one h hs hx
    · rw [if_neg h0, if_neg h1]; exact pfresh_out h (by rw [decide_eq_false h0, decide_eq_false h1]; rfl)
theorem pfresh_nil (d x : Int) (w : World) : Calls Try.prog 19 #[.pointer none, .int .i64 d, .int .i64 x] w fun e w' => e = .returned (.bool false) ∧ ∃ n, w' = w.drewN n := by
  go_enter Try.func19, Try.ntmps19
  go_wp2_with fail
  go_quiet (fail)
  go_wp2_with fail
  go_ret
  exact ⟨rfl, _, rfl⟩
/-- The second domain's clock, held to what the first one's tells. -/
def PP.held (s : PP) (x : Int) : PP :=
  if s.root = true then (if s.a.fresh x s.most = true then (if s.a.tells x = true then { s with b := s.b.knows x (s.a.time x) s.b.rate } else s) else s) else s
theorem PP.Ok.held (hs : s.Ok) {x : Int} (hx : In64 x) : (s.held x).Ok := by
  unfold PP.held
  split
  · split
    · split
      · exact ⟨hs.a, hs.b.knows hx (CS.time_64 hx) hs.b.rate, hs.da, hs.db, hs.most, hs.last⟩
      · exact hs
    · exact hs
  · exact hs
theorem hold_no (h : Pw w p k0 k1 s) (x : Int) (hr : s.root = false) : Calls Try.prog 44 #[.pointer (some ⟨p, 0, none⟩), .int .i64 x] w fun e w' => e = .returned (.tuple #[]) ∧ LeaveP p k0 k1 w (s.held x) w' := by
  have e : s.held x = s := by unfold PP.held; rw [hr]; rfl
  rw [e]
  have H := Lib.hid h
  have c3 := h.p3
  rw [hr] at c3
  clear h e
  go_enter Try.func44, Try.ntmps44
  go_wp2_with fail
  refine bodyPost_ret (results_none rfl _ _ _) rfl ?_
  exact ⟨rfl, H.out, ButS.refl _ _⟩
theorem hold_old (h : Pw w p k0 k1 s) (hs : s.Ok) {x : Int} (hx : In64 x) (hr : s.root = true) (hf : s.a.fresh x s.most = false) : Calls Try.prog 44 #[.pointer (some ⟨p, 0, none⟩), .int .i64 x] w fun e w' => e = .returned (.tuple #[]) ∧ LeaveP p k0 k1 w (s.held x) w' := by
  have e : s.held x = s := by unfold PP.held; rw [hr, hf]; rfl
  rw [e]
  have H := Lib.hid h
  have c3 := h.p3
  rw [hr] at c3
  have HF : Hid (∀ W, Pw W p k0 k1 s → Calls Try.prog 19 #[.pointer (some ⟨p, 0, none⟩), .int .i64 0, .int .i64 x] W fun e w' => e = .returned (.bool false) ∧ ∃ n, w' = W.drewN n) := Lib.hid (fun W h => by have := pfresh_zero h hs hx; rw [hf] at this; exact this)
  clear h e hs hx hf
  go_enter Try.func44, Try.ntmps44
  go_wp2_with ((go_at_call 19; (with_reducible refine (HF.out _ H.out).mono ?_); rintro e w1 ⟨rfl, n1, rfl⟩; have H1 := Lib.hid (H.out.drewN n1)))
  refine bodyPost_ret (results_none rfl _ _ _) rfl ?_
  exact ⟨rfl, H1.out, (ButS.refl _ _).drewN n1⟩
theorem hold_untold (h : Pw w p k0 k1 s) (hs : s.Ok) {x : Int} (hx : In64 x) (hr : s.root = true) (hf : s.a.fresh x s.most = true) (ht : s.a.tells x = false) : Calls Try.prog 44 #[.pointer (some ⟨p, 0, none⟩), .int .i64 x] w fun e w' => e = .returned (.tuple #[]) ∧ LeaveP p k0 k1 w (s.held x) w' := by
  have e : s.held x = s := by unfold PP.held; rw [hr, hf, ht]; rfl
  rw [e]
  have H := Lib.hid h
  have c3 := h.p3
  rw [hr] at c3
  have HF : Hid (∀ W, Pw W p k0 k1 s → Calls Try.prog 19 #[.pointer (some ⟨p, 0, none⟩), .int .i64 0, .int .i64 x] W fun e w' => e = .returned (.bool true) ∧ ∃ n, w' = W.drewN n) := Lib.hid (fun W h => by have := pfresh_zero h hs hx; rw [hf] at this; exact this)
  have HA : Hid (∀ W, Ck W k0 s.a → Calls Try.prog 25 #[.pointer (some ⟨k0, 0, none⟩), .int .i64 x] W fun e w' => e = .returned (.tuple #[.int .i64 (s.a.time x), .bool false]) ∧ Below W.heap.size W w') := Lib.hid (fun W h => by have := at_any h hs.a hx; rw [ht] at this; exact this)
  clear h e hs hx hf ht
  generalize s.a.time x = t at *
  go_enter Try.func44, Try.ntmps44
  go_wp2_with (first
    | (go_at_call 19; (with_reducible refine (HF.out _ H.out).mono ?_); rintro e w1 ⟨rfl, n1, rfl⟩; have H1 := Lib.hid (H.out.drewN n1))
    | (go_at_call 43; (with_reducible refine (clock_zero H1.out).mono ?_); rintro e w2 ⟨rfl, rfl⟩)
    | (go_at_call 25; (with_reducible refine (HA.out _ H1.out.c0).mono ?_); rintro e w3 ⟨rfl, hb⟩; have H3 := Lib.hid (H1.out.below hb); have HB3 := Lib.hid (((ButS.refl [p, k0, k1] _).drewN n1).trans (ButS.of_below hb)); clear hb))
  go_end0
  exact ⟨rfl, H3.out, HB3.out⟩
theorem hold_told (h : Pw w p k0 k1 s) (hs : s.Ok) {x : Int} (hx : In64 x) (hr : s.root = true) (hf : s.a.fresh x s.most = true) (ht : s.a.tells x = true) : Calls Try.prog 44 #[.pointer (some ⟨p, 0, none⟩), .int .i64 x] w fun e w' => e = .returned (.tuple #[]) ∧ LeaveP p k0 k1 w (s.held x) w' := by
  have e : s.held x = { s with b := s.b.knows x (s.a.time x) s.b.rate } := by unfold PP.held; rw [hr, hf, ht]; rfl
  rw [e]
  have H := Lib.hid h
  have c3 := h.p3
  rw [hr] at c3
  have HF : Hid (∀ W, Pw W p k0 k1 s → Calls Try.prog 19 #[.pointer (some ⟨p, 0, none⟩), .int .i64 0, .int .i64 x] W fun e w' => e = .returned (.bool true) ∧ ∃ n, w' = W.drewN n) := Lib.hid (fun W h => by have := pfresh_zero h hs hx; rw [hf] at this; exact this)
  have HA : Hid (∀ W, Ck W k0 s.a → Calls Try.prog 25 #[.pointer (some ⟨k0, 0, none⟩), .int .i64 x] W fun e w' => e = .returned (.tuple #[.int .i64 (s.a.time x), .bool true]) ∧ Below W.heap.size W w') := Lib.hid (fun W h => by have := at_any h hs.a hx; rw [ht] at this; exact this)
  clear h e hs hx hf ht
  generalize s.a.time x = t at *
  go_enter Try.func44, Try.ntmps44
  go_wp2_with (first
    | (go_at_call 19; (with_reducible refine (HF.out _ H.out).mono ?_); rintro e w1 ⟨rfl, n1, rfl⟩; have H1 := Lib.hid (H.out.drewN n1))
    | (go_at_call 43; (with_reducible refine (clock_zero H1.out).mono ?_); rintro e w2 ⟨rfl, rfl⟩)
    | (go_at_call 25; (with_reducible refine (HA.out _ H1.out.c0).mono ?_); rintro e w3 ⟨rfl, hb⟩; have H3 := Lib.hid (H1.out.below hb); have HB3 := Lib.hid (((ButS.refl [p, k0, k1] _).drewN n1).trans (ButS.of_below hb)); clear hb)
    | (go_at_call 43; (with_reducible refine (clock_one H3.out).mono ?_); rintro e w4 ⟨rfl, rfl⟩)
    | (go_at_call 26; (with_reducible refine (hold_any H3.out.c1 x t).mono ?_); rintro e w5 ⟨rfl, hl⟩; have H5 := Lib.hid (H3.out.turn1 hl); have HB5 := Lib.hid (HB3.out.trans (ButS.of_but hl.2 m2)); clear hl))
  go_end0
  exact ⟨rfl, H5.out, HB5.out⟩
theorem phold_any (h : Pw w p k0 k1 s) (hs : s.Ok) {x : Int} (hx : In64 x) : Calls Try.prog 44 #[.pointer (some ⟨p, 0, none⟩), .int .i64 x] w fun e w' => e = .returned (.tuple #[]) ∧ LeaveP p k0 k1 w (s.held x) w' := by
  cases hr : s.root with
  | false => exact hold_no h x hr
  | true =>
    cases hf : s.a.fresh x s.most with
    | false => exact hold_old h hs hx hr hf
    | true =>
      cases ht : s.a.tells x with
      | false => exact hold_untold h hs hx hr hf ht
      | true => exact hold_told h hs hx hr hf ht
/-- The domain whose time holds. -/
def PP.held1 (s : PP) (x : Int) : Int := if s.a.fresh x s.most = true then 0 else if s.b.fresh x s.most = true then 1 else s.last
def PP.picked (s : PP) (x : Int) : PP := { s with last := s.held1 x }
theorem PP.Ok.picked (hs : s.Ok) (x : Int) : (s.picked x).Ok := by
  refine ⟨hs.a, hs.b, hs.da, hs.db, hs.most, ?_⟩
  show s.held1 x = -1 ∨ s.held1 x = 0 ∨ s.held1 x = 1
  unfold PP.held1
  split
  · omega
  split
  · omega
  exact hs.last
theorem last_64 (hs : s.Ok) : In64 s.last := by
  rcases hs.last with h | h | h <;> (rw [h]; exact ⟨by decide, by decide⟩)
theorem pick_zero (h : Pw w p k0 k1 s) (hs : s.Ok) {x : Int} (hx : In64 x) (hf : s.a.fresh x s.most = true) : Calls Try.prog 18 #[.pointer (some ⟨p, 0, none⟩), .int .i64 x] w fun e w' => e = .returned (.int .i64 (s.held1 x)) ∧ LeaveP p k0 k1 w (s.picked x) w' := by
  have e : s.held1 x = 0 := by unfold PP.held1; rw [hf]; rfl
  unfold PP.picked
  rw [e]
  have H := Lib.hid h
  have HF : Hid (∀ W, Pw W p k0 k1 s → Calls Try.prog 19 #[.pointer (some ⟨p, 0, none⟩), .int .i64 0, .int .i64 x] W fun e w' => e = .returned (.bool true) ∧ ∃ n, w' = W.drewN n) := Lib.hid (fun W h => by have := pfresh_zero h hs hx; rw [hf] at this; exact this)
  clear h e hs hx hf
  go_enter Try.func18, Try.ntmps18
  go_wp2_with fail
  refine wp_loop_rounds 3 ?_
  rw [rounds_succ]
  go_wp2_with (first
    | (go_at_call 19; (with_reducible refine (HF.out _ H.out).mono ?_); rintro e w1 ⟨rfl, n1, rfl⟩; have H1 := Lib.hid (H.out.drewN n1); have fz := H1.out.fz; have c4 := H1.out.p4; have HX := Lib.hid (H1.out.set 4 (.int .i64 0) (s' := { s with last := 0 }) rfl rfl rfl); have HBX := Lib.hid (((ButS.refl [p, k0, k1] w).drewN n1).trans (ButS.of_but (set_but (ButB.refl p (w.drewN n1)) 4 (.int .i64 0)) m0))))
  go_ret
  exact ⟨rfl, HX.out, HBX.out⟩
theorem pick_one (h : Pw w p k0 k1 s) (hs : s.Ok) {x : Int} (hx : In64 x) (hf : s.a.fresh x s.most = false) (hg : s.b.fresh x s.most = true) : Calls Try.prog 18 #[.pointer (some ⟨p, 0, none⟩), .int .i64 x] w fun e w' => e = .returned (.int .i64 (s.held1 x)) ∧ LeaveP p k0 k1 w (s.picked x) w' := by
  have e : s.held1 x = 1 := by unfold PP.held1; rw [hf, hg]; rfl
  unfold PP.picked
  rw [e]
  have H := Lib.hid h
  have HF : Hid (∀ W, Pw W p k0 k1 s → Calls Try.prog 19 #[.pointer (some ⟨p, 0, none⟩), .int .i64 0, .int .i64 x] W fun e w' => e = .returned (.bool false) ∧ ∃ n, w' = W.drewN n) := Lib.hid (fun W h => by have := pfresh_zero h hs hx; rw [hf] at this; exact this)
  have HG : Hid (∀ W, Pw W p k0 k1 s → Calls Try.prog 19 #[.pointer (some ⟨p, 0, none⟩), .int .i64 1, .int .i64 x] W fun e w' => e = .returned (.bool true) ∧ ∃ n, w' = W.drewN n) := Lib.hid (fun W h => by have := pfresh_one h hs hx; rw [hg] at this; exact this)
  clear h e hs hx hf hg
  go_enter Try.func18, Try.ntmps18
  go_wp2_with fail
  refine wp_loop_rounds 3 ?_
  rw [rounds_succ]
  go_wp2_with (first
    | (go_at_call 19; (with_reducible refine (HF.out _ H.out).mono ?_); rintro e w1 ⟨rfl, n1, rfl⟩; have H1 := Lib.hid (H.out.drewN n1)))
  rw [rounds_succ]
  go_wp2_with (first
    | (go_at_call 19; (with_reducible refine (HG.out _ H1.out).mono ?_); rintro e w2 ⟨rfl, n2, rfl⟩; have H2 := Lib.hid (H.out.drewN (n1 + n2)); have fz := H.out.fz; have c4 := H.out.p4; have HX := Lib.hid (H2.out.set 4 (.int .i64 1) (s' := { s with last := 1 }) rfl rfl rfl); have HBX := Lib.hid (((ButS.refl [p, k0, k1] w).drewN (n1 + n2)).trans (ButS.of_but (set_but (ButB.refl p (w.drewN (n1 + n2))) 4 (.int .i64 1)) m0))))
  go_ret
  exact ⟨rfl, HX.out, HBX.out⟩
theorem pick_none (h : Pw w p k0 k1 s) (hs : s.Ok) {x : Int} (hx : In64 x) (hf : s.a.fresh x s.most = false) (hg : s.b.fresh x s.most = false) : Calls Try.prog 18 #[.pointer (some ⟨p, 0, none⟩), .int .i64 x] w fun e w' => e = .returned (.int .i64 (s.held1 x)) ∧ LeaveP p k0 k1 w (s.picked x) w' := by
  have e : s.held1 x = s.last := by unfold PP.held1; rw [hf, hg]; rfl
  unfold PP.picked
  rw [e]
  have H := Lib.hid h
  have HF : Hid (∀ W, Pw W p k0 k1 s → Calls Try.prog 19 #[.pointer (some ⟨p, 0, none⟩), .int .i64 0, .int .i64 x] W fun e w' => e = .returned (.bool false) ∧ ∃ n, w' = W.drewN n) := Lib.hid (fun W h => by have := pfresh_zero h hs hx; rw [hf] at this; exact this)
  have HG : Hid (∀ W, Pw W p k0 k1 s → Calls Try.prog 19 #[.pointer (some ⟨p, 0, none⟩), .int .i64 1, .int .i64 x] W fun e w' => e = .returned (.bool false) ∧ ∃ n, w' = W.drewN n) := Lib.hid (fun W h => by have := pfresh_one h hs hx; rw [hg] at this; exact this)
  clear h e hs hx hf hg
  go_enter Try.func18, Try.ntmps18
  go_wp2_with fail
  refine wp_loop_rounds 3 ?_
  rw [rounds_succ]
  go_wp2_with (first
    | (go_at_call 19; (with_reducible refine (HF.out _ H.out).mono ?_); rintro e w1 ⟨rfl, n1, rfl⟩; have H1 := Lib.hid (H.out.drewN n1)))
  rw [rounds_succ]
  go_wp2_with (first
    | (go_at_call 19; (with_reducible refine (HG.out _ H1.out).mono ?_); rintro e w2 ⟨rfl, n2, rfl⟩; have H2 := Lib.hid (H.out.drewN (n1 + n2)); have c4 := H.out.p4; have HX := H2; have HBX := Lib.hid ((ButS.refl [p, k0, k1] w).drewN (n1 + n2))))
  rw [rounds_succ]
  go_wp2_with fail
  go_ret
  exact ⟨rfl, HX.out, HBX.out⟩
theorem pick_any (h : Pw w p k0 k1 s) (hs : s.Ok) {x : Int} (hx : In64 x) : Calls Try.prog 18 #[.pointer (some ⟨p, 0, none⟩), .int .i64 x] w fun e w' => e = .returned (.int .i64 (s.held1 x)) ∧ LeaveP p k0 k1 w (s.picked x) w' := by
  cases hf : s.a.fresh x s.most with
  | true => exact pick_zero h hs hx hf
  | false =>
    cases hg : s.b.fresh x s.most with
    | true => exact pick_one h hs hx hf hg
    | false => exact pick_none h hs hx hf hg
end

end Go.Proofs.Ytfeoppbincldfaa
