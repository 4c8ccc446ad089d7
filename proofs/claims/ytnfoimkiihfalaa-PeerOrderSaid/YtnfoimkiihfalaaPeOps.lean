/- Package peer: the small calls. -/
import Derived.Test.YtnfoimkiihfalaaPeHand
namespace Go.Proofs.Ytnfoimkiihfalaa
open Go.RowKit Go.Joins

/-- What a call over a peer leaves. -/
def Leave (b : Nat) (w : World) (s : PS) (w' : World) : Prop := Pr w' b s ∧ ButB b w w'
theorem ButB.drewN {b : Nat} {w w1 : World} (h : ButB b w w1) (n : Nat) : ButB b w (w1.drewN n) := ⟨h.os, h.tape, h.output, h.size, h.block⟩
namespace PS
def fail (s : PS) : PS := if s.lost ≤ s.failed + 1 then { s with stage := 0, failed := s.failed + 1, ms := [], delay := 0 } else { s with stage := 0, failed := s.failed + 1 }
def ask (s : PS) : PS := { (if s.stage = 0 then s else s.fail) with seq := (s.seq + 1) % 65536, stage := 1 }
def sent (s : PS) (x : Int) : PS := { s with t1 := x, stage := if s.stage < 2 then 2 else s.stage }
end PS
section
variable {w : World} {b : Nat} {s : PS}
theorem fail_any (h : Pr w b s) (f0 : 0 ≤ s.failed) (f1 : s.failed ≤ 4611686018427387904) : Calls Try.prog 45 #[.pointer (some ⟨b, 0, none⟩)] w fun e w' => e = .returned (.tuple #[]) ∧ Leave b w s.fail w' := by
  obtain ⟨v, h⟩ := h
  have c5 := h.c5
  have c7 := h.c7
  have c11 := h.c11
  have c13 := h.c13
  have c14 := h.c14
  have fz := h.fz
  have hw : wrap64 (s.failed + 1) = s.failed + 1 := by unfold wrap64; omega
  have h1 := h.set 7 (.int .i64 0) (s' := { s with stage := 0 }) rfl h.mks
  have h2 := h1.set 14 (.int .i64 (s.failed + 1)) (s' := { s with stage := 0, failed := s.failed + 1 }) rfl h1.mks
  have HB := Lib.hid (set_but (set_but (ButB.refl b w) 7 (.int .i64 0)) 14 (.int .i64 (s.failed + 1)))
  clear f0 f1
  by_cases hl : s.lost ≤ s.failed + 1
  · have h3 := h2.set 11 (.slice none 0 0) (s' := { s with stage := 0, failed := s.failed + 1, ms := [] }) rfl (.inl ⟨rfl, rfl⟩)
    have h4 := h3.set 13 (.int .i64 0) (s' := { s with stage := 0, failed := s.failed + 1, ms := [], delay := 0 }) rfl h3.mks
    have HR : Hid (∀ n, Leave b w s.fail (((((w.setCell ⟨b, 7, none⟩ (.int .i64 0)).setCell ⟨b, 14, none⟩ (.int .i64 (s.failed + 1))).setCell ⟨b, 11, none⟩ (.slice none 0 0)).setCell ⟨b, 13, none⟩ (.int .i64 0)).drewN n)) := Lib.hid (fun n => by
      unfold PS.fail
      rw [if_pos hl]
      exact ⟨⟨_, ⟨h4.box, h4.mks⟩⟩, (set_but (set_but HB.out 11 _) 13 _).drewN n⟩)
    have d : decide (s.lost ≤ s.failed + 1) = true := decide_eq_true hl
    clear hl h1 h2 h3 h4 h
    go_enter Try.func45, Try.ntmps45
    go_wp2_with fail
    go_quiet (fail)
    go_wp2_with fail
    go_end0
    exact ⟨rfl, HR.out _⟩
  · have HR : Hid (∀ n, Leave b w s.fail (((w.setCell ⟨b, 7, none⟩ (.int .i64 0)).setCell ⟨b, 14, none⟩ (.int .i64 (s.failed + 1))).drewN n)) := Lib.hid (fun n => by
      unfold PS.fail
      rw [if_neg hl]
      exact ⟨⟨_, ⟨h2.box, h2.mks⟩⟩, HB.out.drewN n⟩)
    have d : decide (s.lost ≤ s.failed + 1) = false := decide_eq_false hl
    clear hl h1 h2 h
    go_enter Try.func45, Try.ntmps45
    go_wp2_with fail
    go_quiet (fail)
    go_wp2_with fail
    go_end0
    exact ⟨rfl, HR.out _⟩
theorem sent_one (h : Pr w b s) (x : Int) (hs : s.stage = 1) : Calls Try.prog 19 #[.pointer (some ⟨b, 0, none⟩), .int .i64 s.seq, .int .i64 x] w fun e w' => e = .returned (.tuple #[]) ∧ Leave b w { s with t1 := x, stage := 2 } w' := by
  obtain ⟨v, h⟩ := h
  have c6 := h.c6
  have c7 := h.c7
  have c8 := h.c8
  have fz := h.fz
  have h1 := h.set 8 (.int .i64 x) (s' := { s with t1 := x }) rfl h.mks
  have h2 := h1.set 7 (.int .i64 2) (s' := { s with t1 := x, stage := 2 }) rfl h1.mks
  have HR : Hid (Leave b w { s with t1 := x, stage := 2 } ((w.setCell ⟨b, 8, none⟩ (.int .i64 x)).setCell ⟨b, 7, none⟩ (.int .i64 2))) := Lib.hid ⟨⟨_, h2⟩, set_but (set_but (ButB.refl b w) 8 _) 7 _⟩
  clear h h1 h2
  rw [hs] at c7
  generalize s.seq = q at *
  go_enter Try.func19, Try.ntmps19
  go_wp2_with fail
  go_end0
  exact ⟨rfl, HR.out⟩
theorem sent_other (h : Pr w b s) (x q : Int) (hq : q ≠ s.seq) : Calls Try.prog 19 #[.pointer (some ⟨b, 0, none⟩), .int .i64 q, .int .i64 x] w fun e w' => e = .returned (.tuple #[]) ∧ w' = w := by
  obtain ⟨v, h⟩ := h
  have c6 := h.c6
  have c7 := h.c7
  have d : (q != s.seq) = true := by rw [bne_iff_ne]; exact hq
  clear hq h
  by_cases hs : s.stage = 0
  · rw [hs] at c7
    go_enter Try.func19, Try.ntmps19
    go_wp2_with fail
    refine bodyPost_ret (v := .tuple #[]) (results_none rfl _ _ _) rfl ?_
    exact ⟨rfl, rfl⟩
  · have d0 : (s.stage == 0) = false := by rw [beq_eq_false_iff_ne]; exact hs
    clear hs
    go_enter Try.func19, Try.ntmps19
    go_wp2_with fail
    refine bodyPost_ret (v := .tuple #[]) (results_none rfl _ _ _) rfl ?_
    exact ⟨rfl, rfl⟩
theorem able_any (h : Pr w b s) : Calls Try.prog 26 #[.pointer (some ⟨b, 0, none⟩)] w fun e w' => e = .returned (.bool (decide (2 ≤ s.ms.length))) ∧ w' = w := by
  obtain ⟨v, h⟩ := h
  have c11 := h.c11
  obtain ⟨p, c, rfl⟩ := h.mks.form
  have d : decide ((2 : Int) ≤ (s.ms.length : Int)) = decide (2 ≤ s.ms.length) := by
    rw [decide_eq_decide]; omega
  have HD := Lib.hid d
  clear h d
  generalize decide (2 ≤ s.ms.length) = z at *
  generalize s.ms.length = n at *
  go_enter Try.func26, Try.ntmps26
  go_wp2_with fail
  go_ret
  exact ⟨by rw [HD.out]; rfl, rfl⟩
theorem able_nil (w : World) : Calls Try.prog 26 #[.pointer none] w fun e w' => e = .returned (.bool false) ∧ w' = w := by
  go_enter Try.func26, Try.ntmps26
  go_wp2_with fail
  go_ret
  exact ⟨rfl, rfl⟩
theorem delay_any (h : Pr w b s) : Calls Try.prog 21 #[.pointer (some ⟨b, 0, none⟩)] w fun e w' => e = .returned (.int .i64 s.delay) ∧ w' = w := by
  obtain ⟨v, h⟩ := h
  have c13 := h.c13
  clear h
  go_enter Try.func21, Try.ntmps21
  go_wp2_with fail
  go_ret
  exact ⟨rfl, rfl⟩
theorem rate_any (h : Pr w b s) : Calls Try.prog 25 #[.pointer (some ⟨b, 0, none⟩)] w fun e w' => e = .returned (.int .i64 (if 2 ≤ s.ms.length then s.rate else 2199023255552)) ∧ w' = w := by
  have HA := able_any h
  obtain ⟨v, h⟩ := h
  have c12 := h.c12
  clear h
  by_cases hl : 2 ≤ s.ms.length
  · rw [if_pos hl]
    rw [decide_eq_true hl] at HA
    clear hl
    go_enter Try.func25, Try.ntmps25
    go_wp2_with (go_at_call 26; (with_reducible refine HA.mono ?_); rintro e w1 ⟨rfl, rfl⟩)
    go_ret
    exact ⟨rfl, rfl⟩
  · rw [if_neg hl]
    rw [decide_eq_false hl] at HA
    clear hl
    go_enter Try.func25, Try.ntmps25
    go_wp2_with (go_at_call 26; (with_reducible refine HA.mono ?_); rintro e w1 ⟨rfl, rfl⟩)
    go_ret
    exact ⟨rfl, rfl⟩
end

end Go.Proofs.Ytnfoimkiihfalaa
