/- Package agenda at int: container/heap's down. -/
import Derived.Test.YtnddiobjojnckaaAgUpI
namespace Go.Proofs.Ytnddiobjojnckaa
open Go.RowKit Go.Joins
namespace AgI

theorem child {d i : Nat} (h0 : 0 < d) (h : par d = i) : d = 2 * i + 1 ∨ d = 2 * i + 2 := by unfold par at h; omega
theorem par_one (i : Nat) : par (2 * i + 1) = i := by unfold par; omega
theorem par_two (i : Nat) : par (2 * i + 2) = i := by unfold par; omega
theorem not_lt_self (a : Ent) : ¬ Lt a a := by unfold Lt; omega
def HDn (B : Nat) (w0 : World) (g : Nat) (now last : Int) (l0 : List Ent) (n i0 : Nat) (iv : Value) (wr : World) : Prop := ∃ (i : Nat) (l : List Ent), iv = .int .i64 (i : Int) ∧ i0 ≤ i ∧ i < n ∧ DnI l n i0 i ∧ l.length = l0.length ∧ Same B w0 wr g now last l0 l n
def DownPost (B : Nat) (w0 : World) (g : Nat) (now last : Int) (l0 : List Ent) (n i0 : Nat) (e : Ending) (w' : World) : Prop := ∃ (b : Bool) (l : List Ent), e = .returned (.bool b) ∧ (b = true → Hp l n) ∧ (b = false → UpI l n i0) ∧ l.length = l0.length ∧ Same B w0 w' g now last l0 l n
theorem down_stop {B : Nat} {w0 w' : World} {g n i0 i : Nat} {now last : Int} {l0 l : List Ent} {e : Ending} (hi : i0 ≤ i) (h : DnI l n i0 i) (hmin : ∀ d, 0 < d → d < n → par d = i → ¬ Lt (el l d) (el l i)) (hl : l.length = l0.length) (hS : Same B w0 w' g now last l0 l n) (he : e = .returned (.bool (decide (i0 < i)))) : DownPost B w0 g now last l0 n i0 e w' := by
  have hd := dn_end hi h hmin
  refine ⟨_, l, he, fun hb => hd.1 (by have := of_decide_eq_true hb; omega), fun hb => hd.2 (by have := of_decide_eq_false hb; omega), hl, hS⟩

set_option maxHeartbeats 4000000 in
theorem down_any {B g n i0 : Nat} {now last : Int} {l : List Ent} {w : World} (h : Ag B w g now last l) (hn : n ≤ l.length) (hl : l.length ≤ 1000000) (hi : i0 < n) (hd : DnI l n i0 i0) :
    Calls Try.prog 25 #[.iface 66 (.pointer (some ⟨g, 2, none⟩)), .int .i64 (i0 : Int), .int .i64 (n : Int)] w (DownPost B w g now last l n i0) := by
  have H := Lib.hid h
  have HD := Lib.hid hd
  have hn6 : n ≤ 1000000 := by omega
  clear h hd
  go_enter Try.func25, Try.ntmps25
  go_wp2_with fail
  go_loopw [7] (fun iv wr => HDn B w g now last l n i0 iv wr) (fun iv _ => n - (intOf iv).toNat)
  case atStart => exact ⟨i0, l, rfl, Nat.le_refl _, hi, HD.out, rfl, H.out, .refl _, fun _ _ => rfl, Below.refl _ _, KeptT.refl _ _⟩
  case round =>
    clear H HD
    obtain ⟨i, l', rfl, hi1, hin, hu, hlen, hS⟩ := hrel
    have HU := Lib.hid hu
    have HS := Lib.hid hS
    have HLEN := Lib.hid hlen
    have hn' : n ≤ l'.length := by omega
    have hl' : l'.length ≤ 1000000 := by omega
    have w1e : wrap64 (2 * (i : Int)) = 2 * (i : Int) := by unfold wrap64; omega
    clear hu hS hlen
    rcases Nat.lt_or_ge (2 * i + 1) n with g1 | g1
    rotate_left
    · have d1 : decide ((n : Int) ≤ 2 * (i : Int) + 1) = true := decide_eq_true (by omega)
      go_wp2_with fail
      go_ret
      exact down_stop hi1 HU.out (fun d h0 h1 h2 => by rcases child h0 h2 with e | e <;> omega) HLEN.out HS.out rfl
    have d1 : decide ((n : Int) ≤ 2 * (i : Int) + 1) = false := decide_eq_false (by omega)
    have d2 : decide (2 * (i : Int) + 1 < 0) = false := decide_eq_false (by omega)
    obtain ⟨q, hc, hq⟩ := HS.out.1.q
    have HC := Lib.hid hc
    have HQ := Lib.hid hq
    obtain ⟨j1, hj1⟩ : ∃ j1, 2 * i + 1 = j1 := ⟨_, rfl⟩
    have ej1 : 2 * (i : Int) + 1 = (j1 : Int) := by omega
    rw [ej1] at d1 d2
    have HJ1 := Lib.hid hj1
    have hp1 : Hid (par j1 = i) := Lib.hid (by rw [← hj1]; exact par_one i)
    obtain ⟨j2, hj2⟩ : ∃ j2, j1 + 1 = j2 := ⟨_, rfl⟩
    have ej2 : (j1 : Int) + 1 = (j2 : Int) := by omega
    have hp2 : Hid (par j2 = i) := Lib.hid (by rw [← hj2, ← hj1]; exact par_two i)
    have hb1 : j1 < n := by omega
    have hb1' : i < j1 := by omega
    have hb2' : j1 < j2 := by omega
    have HJ2 := Lib.hid hj2
    clear hq hj1 hj2 g1
    have v1 := (via HC.out).2.1
    rcases Nat.lt_or_ge j2 n with g2 | g2
    rotate_left
    · have d3 : decide ((j2 : Int) < (n : Int)) = false := decide_eq_false (by omega)
      have HPC := hp1
      have HMIN : Hid (∀ d, 0 < d → d < n → par d = i → ¬ Lt (el l' d) (el l' j1)) := Lib.hid (fun d h0 h1 h2 => by
        have := HJ1.out
        have := HJ2.out
        rcases child h0 h2 with e | e
        · have : d = j1 := by omega
          rw [this]; exact not_lt_self _
        · omega)
      obtain ⟨b, hb⟩ : ∃ b, ltb (el l' j1) (el l' i) = b := ⟨_, rfl⟩
      have HBB := Lib.hid hb
      clear hb
      cases b
      · have HL2 : Hid (∀ W q, QSt B W q l' → Calls Try.prog 46 #[q, .int .i64 (j1 : Int), .int .i64 (i : Int)] W fun e w' => e = .returned (.bool false) ∧ Below W.heap.size W w') := Lib.hid (fun W q hq => by have h := less_any hq (i := j1) (j := i) (by omega) (by omega); rw [HBB.out] at h; exact h)
        go_wp2_with (first
          | (go_at_call 46; (with_reducible refine (HL2.out _ _ HQ.out).mono ?_); rintro e w2 ⟨rfl, hb⟩; have HSF := Lib.hid (HS.out.call hb); clear hb))
        go_ret
        refine down_stop hi1 HU.out (fun d h0 h1 h2 => ?_) HLEN.out HSF.out rfl
        exact not_lt_trans (HMIN.out d h0 h1 h2) (ltb_false HBB.out)
      · have HL2 : Hid (∀ W q, QSt B W q l' → Calls Try.prog 46 #[q, .int .i64 (j1 : Int), .int .i64 (i : Int)] W fun e w' => e = .returned (.bool true) ∧ Below W.heap.size W w') := Lib.hid (fun W q hq => by have h := less_any hq (i := j1) (j := i) (by omega) (by omega); rw [HBB.out] at h; exact h)
        have HSW : Hid (∀ W q, QSt B W q l' → Calls Try.prog 47 #[q, .int .i64 (i : Int), .int .i64 (j1 : Int)] W fun e w' => e = .returned (.tuple #[]) ∧ QSt B w' q (swp l' i j1) ∧ Below B W w' ∧ KeptT [51] W w') := Lib.hid (fun W q hq => swap_any hq (i := i) (j := j1) (by omega) (by omega) (by omega))
        go_wp2_with (first
          | (go_at_call 46; (with_reducible refine (HL2.out _ _ HQ.out).mono ?_); rintro e w2 ⟨rfl, hb⟩; have HS2 := Lib.hid (HS.out.call hb); obtain ⟨q2, hc2, hq2⟩ := HS2.out.1.q; have v3 := (via hc2).2.2; have HQ2 := Lib.hid hq2; have HC2 := Lib.hid hc2; clear hb hc2 hq2 v1)
          | (go_at_call 47; (with_reducible refine (HSW.out _ _ HQ2.out).mono ?_); rintro e w3 ⟨rfl, hq3, hb3, hk3⟩; have HS3 := Lib.hid (HS2.out.swap HC2.out hq3 hb3 hk3 (by omega) (by omega) (by omega)); clear hq3 hb3 hk3 v3))
        exact ⟨⟨j1, _, rfl, by omega, by omega, dn_step hn' hi1 (by omega) (by omega) HPC.out HU.out HMIN.out (ltb_true HBB.out), by rw [swp_len]; exact HLEN.out, HS3.out⟩, by simp [intOf]; omega⟩
    · have d3 : decide ((j2 : Int) < (n : Int)) = true := decide_eq_true (by omega)
      obtain ⟨b1, hbb⟩ : ∃ b, ltb (el l' j2) (el l' j1) = b := ⟨_, rfl⟩
      have HB12 := Lib.hid hbb
      have HL1 := Lib.hid (less_any HQ.out (i := j2) (j := j1) (by omega) (by omega))
      rw [hbb] at HL1
      clear hbb
      cases b1
      · have HPC := hp1
        have HMIN : Hid (∀ d, 0 < d → d < n → par d = i → ¬ Lt (el l' d) (el l' j1)) := Lib.hid (fun d h0 h1 h2 => by
          have := HJ1.out
          have := HJ2.out
          rcases child h0 h2 with e | e
          · have : d = j1 := by omega
            rw [this]; exact not_lt_self _
          · have : d = j2 := by omega
            rw [this]; exact ltb_false HB12.out)
        obtain ⟨b, hb⟩ : ∃ b, ltb (el l' j1) (el l' i) = b := ⟨_, rfl⟩
        have HBB := Lib.hid hb
        clear hb
        cases b
        · have HL2 : Hid (∀ W q, QSt B W q l' → Calls Try.prog 46 #[q, .int .i64 (j1 : Int), .int .i64 (i : Int)] W fun e w' => e = .returned (.bool false) ∧ Below W.heap.size W w') := Lib.hid (fun W q hq => by have h := less_any hq (i := j1) (j := i) (by omega) (by omega); rw [HBB.out] at h; exact h)
          go_wp2_with (first
            | (go_at_call 46; (with_reducible refine HL1.out.mono ?_); rintro e w1 ⟨rfl, hb⟩; have HS1 := Lib.hid (HS.out.call hb); obtain ⟨q1, hc1, hq1⟩ := HS1.out.1.q; have v2 := (via hc1).2.1; have HQ1 := Lib.hid hq1; clear hb hc1 hq1 v1)
            | (go_at_call 46; (with_reducible refine (HL2.out _ _ HQ1.out).mono ?_); rintro e w2 ⟨rfl, hb⟩; have HSF := Lib.hid (HS1.out.call hb); clear hb))
          go_ret
          refine down_stop hi1 HU.out (fun d h0 h1 h2 => ?_) HLEN.out HSF.out rfl
          exact not_lt_trans (HMIN.out d h0 h1 h2) (ltb_false HBB.out)
        · have HL2 : Hid (∀ W q, QSt B W q l' → Calls Try.prog 46 #[q, .int .i64 (j1 : Int), .int .i64 (i : Int)] W fun e w' => e = .returned (.bool true) ∧ Below W.heap.size W w') := Lib.hid (fun W q hq => by have h := less_any hq (i := j1) (j := i) (by omega) (by omega); rw [HBB.out] at h; exact h)
          have HSW : Hid (∀ W q, QSt B W q l' → Calls Try.prog 47 #[q, .int .i64 (i : Int), .int .i64 (j1 : Int)] W fun e w' => e = .returned (.tuple #[]) ∧ QSt B w' q (swp l' i j1) ∧ Below B W w' ∧ KeptT [51] W w') := Lib.hid (fun W q hq => swap_any hq (i := i) (j := j1) (by omega) (by omega) (by omega))
          go_wp2_with (first
            | (go_at_call 46; (with_reducible refine HL1.out.mono ?_); rintro e w1 ⟨rfl, hb⟩; have HS1 := Lib.hid (HS.out.call hb); obtain ⟨q1, hc1, hq1⟩ := HS1.out.1.q; have v2 := (via hc1).2.1; have HQ1 := Lib.hid hq1; clear hb hc1 hq1 v1)
            | (go_at_call 46; (with_reducible refine (HL2.out _ _ HQ1.out).mono ?_); rintro e w2 ⟨rfl, hb⟩; have HS2 := Lib.hid (HS1.out.call hb); obtain ⟨q2, hc2, hq2⟩ := HS2.out.1.q; have v3 := (via hc2).2.2; have HQ2 := Lib.hid hq2; have HC2 := Lib.hid hc2; clear hb hc2 hq2 v2)
            | (go_at_call 47; (with_reducible refine (HSW.out _ _ HQ2.out).mono ?_); rintro e w3 ⟨rfl, hq3, hb3, hk3⟩; have HS3 := Lib.hid (HS2.out.swap HC2.out hq3 hb3 hk3 (by omega) (by omega) (by omega)); clear hq3 hb3 hk3 v3))
          exact ⟨⟨j1, _, rfl, by omega, by omega, dn_step hn' hi1 (by omega) (by omega) HPC.out HU.out HMIN.out (ltb_true HBB.out), by rw [swp_len]; exact HLEN.out, HS3.out⟩, by simp [intOf]; omega⟩
      · have HPC := hp2
        have HMIN : Hid (∀ d, 0 < d → d < n → par d = i → ¬ Lt (el l' d) (el l' j2)) := Lib.hid (fun d h0 h1 h2 => by
          have := HJ1.out
          have := HJ2.out
          rcases child h0 h2 with e | e
          · have : d = j1 := by omega
            rw [this]; exact (ltb_true HB12.out).asymm
          · have : d = j2 := by omega
            rw [this]; exact not_lt_self _)
        obtain ⟨b, hb⟩ : ∃ b, ltb (el l' j2) (el l' i) = b := ⟨_, rfl⟩
        have HBB := Lib.hid hb
        clear hb
        cases b
        · have HL2 : Hid (∀ W q, QSt B W q l' → Calls Try.prog 46 #[q, .int .i64 (j2 : Int), .int .i64 (i : Int)] W fun e w' => e = .returned (.bool false) ∧ Below W.heap.size W w') := Lib.hid (fun W q hq => by have h := less_any hq (i := j2) (j := i) (by omega) (by omega); rw [HBB.out] at h; exact h)
          go_wp2_with (first
            | (go_at_call 46; (with_reducible refine HL1.out.mono ?_); rintro e w1 ⟨rfl, hb⟩; have HS1 := Lib.hid (HS.out.call hb); obtain ⟨q1, hc1, hq1⟩ := HS1.out.1.q; have v2 := (via hc1).2.1; have HQ1 := Lib.hid hq1; clear hb hc1 hq1 v1)
            | (go_at_call 46; (with_reducible refine (HL2.out _ _ HQ1.out).mono ?_); rintro e w2 ⟨rfl, hb⟩; have HSF := Lib.hid (HS1.out.call hb); clear hb))
          go_ret
          refine down_stop hi1 HU.out (fun d h0 h1 h2 => ?_) HLEN.out HSF.out rfl
          exact not_lt_trans (HMIN.out d h0 h1 h2) (ltb_false HBB.out)
        · have HL2 : Hid (∀ W q, QSt B W q l' → Calls Try.prog 46 #[q, .int .i64 (j2 : Int), .int .i64 (i : Int)] W fun e w' => e = .returned (.bool true) ∧ Below W.heap.size W w') := Lib.hid (fun W q hq => by have h := less_any hq (i := j2) (j := i) (by omega) (by omega); rw [HBB.out] at h; exact h)
          have HSW : Hid (∀ W q, QSt B W q l' → Calls Try.prog 47 #[q, .int .i64 (i : Int), .int .i64 (j2 : Int)] W fun e w' => e = .returned (.tuple #[]) ∧ QSt B w' q (swp l' i j2) ∧ Below B W w' ∧ KeptT [51] W w') := Lib.hid (fun W q hq => swap_any hq (i := i) (j := j2) (by omega) (by omega) (by omega))
          go_wp2_with (first
            | (go_at_call 46; (with_reducible refine HL1.out.mono ?_); rintro e w1 ⟨rfl, hb⟩; have HS1 := Lib.hid (HS.out.call hb); obtain ⟨q1, hc1, hq1⟩ := HS1.out.1.q; have v2 := (via hc1).2.1; have HQ1 := Lib.hid hq1; clear hb hc1 hq1 v1)
            | (go_at_call 46; (with_reducible refine (HL2.out _ _ HQ1.out).mono ?_); rintro e w2 ⟨rfl, hb⟩; have HS2 := Lib.hid (HS1.out.call hb); obtain ⟨q2, hc2, hq2⟩ := HS2.out.1.q; have v3 := (via hc2).2.2; have HQ2 := Lib.hid hq2; have HC2 := Lib.hid hc2; clear hb hc2 hq2 v2)
            | (go_at_call 47; (with_reducible refine (HSW.out _ _ HQ2.out).mono ?_); rintro e w3 ⟨rfl, hq3, hb3, hk3⟩; have HS3 := Lib.hid (HS2.out.swap HC2.out hq3 hb3 hk3 (by omega) (by omega) (by omega)); clear hq3 hb3 hk3 v3))
          exact ⟨⟨j2, _, rfl, by omega, by omega, dn_step hn' hi1 (by omega) (by omega) HPC.out HU.out HMIN.out (ltb_true HBB.out), by rw [swp_len]; exact HLEN.out, HS3.out⟩, by simp [intOf]; omega⟩

end AgI
end Go.Proofs.Ytnddiobjojnckaa
