/- The reference's clock: what is wrong with it. -/
import Derived.Test.YtffjbngelapmmaaOsRef
import Derived.BigQuiet
import Derived.Deep.QuietTactic
import Derived.IntWalk
namespace Go.Proofs.Ytffjbngelapmmaa
open Go.RowKit Go.Joins

def RcRel (w : World) (ts : List (Int × Int)) (s g : Int) (va vr : Value) (kv : Value) (wr : World) : Prop :=
  ∃ k : Nat, k ≤ ts.length ∧ kv = .int .i64 (k : Int) ∧ chkFrom (prev ts k) (ts.drop k) = chkFrom (-1) ts ∧ wr.cell? ⟨w.heap.size, 2, none⟩ = some va ∧ wr.cell? ⟨w.heap.size, 3, none⟩ = some vr ∧ Below w.heap.size w wr
theorem drew_cell {w : World} {p : Addr} {v : Value} (h : w.cell? p = some v) : w.drew.cell? p = some v := h
set_option maxHeartbeats 4000000 in
theorem rchk_ok {va vr : Value} {s g : Int} {ts : List (Int × Int)} {w : World} (h : RClk w va vr ts) (hp : 0 < ts.length) (hl : ts.length ≤ 64) (h0 : tA ts 0 = 0) (g1 : 1 ≤ g) (g2 : g ≤ 1000) (hs : Start s) :
    Calls Try.prog 11 #[.agg #[.int .i64 s, .int .i64 g, va, vr]] w fun e w' => e = .returned (.int .i64 (chkFrom (-1) ts)) ∧ Below w.heap.size w w' := by
  obtain ⟨a, r, c, d, rfl, rfl, hla, hlr, hc⟩ := h.cells hp
  obtain ⟨n, hn⟩ : ∃ n, ts.length = n := ⟨_, rfl⟩
  have HN := Lib.hid hn
  have HC := Lib.hid hc
  have e0 := (hc 0 hp).1
  rw [h0] at e0
  have hs' := hs
  unfold Start at hs'
  rw [hn] at hl hp ⊢
  clear h hc hn hs
  have HB : Below w.heap.size w (w.alloc (.cells #[.int .i64 s, .int .i64 g, .slice (some ⟨a, 0, none⟩) n c, .slice (some ⟨r, 0, none⟩) n d] 34)) := bAl (bRef w) _
  obtain ⟨c0, c1, c2, c3⟩ := box4 w (.int .i64 s) (.int .i64 g) (.slice (some ⟨a, 0, none⟩) n c) (.slice (some ⟨r, 0, none⟩) n d)
  have c4 : (w.alloc (.cells #[.int .i64 s, .int .i64 g, .slice (some ⟨a, 0, none⟩) n c, .slice (some ⟨r, 0, none⟩) n d] 34)).cell? ⟨a, 0, none⟩ = some (.int .i64 0) := (HB.cell hla).trans e0
  replace HB := Lib.hid HB
  have d1 : decide ((64 : Int) < (n : Int)) = false := decide_eq_false (by omega)
  have d2 : ((n : Int) == 0) = false := by simp; omega
  have d3 : decide (g < 1) = false := decide_eq_false (by omega)
  have d4 : decide (1000 < g) = false := decide_eq_false (by omega)
  have d5 : decide (s < -1152921504606846976) = false := decide_eq_false (by omega)
  have d6 : decide (1152921504606846976 < s) = false := decide_eq_false (by omega)
  have H0 := Lib.hid h0
  clear hs' h0
  go_enter Try.func11, Try.ntmps11
  go_wp2_with fail
  go_loopw [42] (fun kv wr => RcRel w ts s g (.slice (some ⟨a, 0, none⟩) n c) (.slice (some ⟨r, 0, none⟩) n d) kv wr) (fun kv _ => n - (intOf kv).toNat)
  case atStart => exact ⟨0, by omega, rfl, rfl, c2, c3, HB.out⟩
  case round =>
    clear c0 c1 c2 c3 c4 HB d1 d2 d3 d4 d5 d6 e0
    obtain ⟨k, hk, rfl, hch, c2, c3, hb⟩ := hrel
    rw [HN.out] at hk
    rcases Nat.lt_or_ge k n with hlt | hge
    · have hkl : k < ts.length := by rw [HN.out]; exact hlt
      have hd : decide ((k : Int) < (n : Int)) = true := decide_eq_true (by omega)
      rw [drop_cons hkl] at hch
      have e1 := (hb.cell hla).trans (HC.out k hkl).1
      have e2 := (hb.cell hlr).trans (HC.out k hkl).2
      rcases Nat.eq_zero_or_pos k with hz | hpos
      · have hp0 : prev ts k = -1 := by unfold prev; rw [if_pos hz]
        rw [hp0] at hch
        have hk0 : decide ((0 : Int) < (k : Int)) = false := decide_eq_false (by omega)
        have hk1 : decide (0 < k) = false := decide_eq_false (by omega)
        have hnp : ∀ x : Int, 0 ≤ x → ¬ x ≤ -1 := fun x hx => by omega
        have ha0 : tA ts k = 0 := by rw [hz]; exact H0.out
        generalize hA : tA ts k = a0 at *
        generalize tR ts k = r0 at *
        have hq : decide (1099511627776 < a0) = false := decide_eq_false (by omega)
        have h12 : ¬ (1099511627776 < a0 ∨ a0 ≤ -1) := by omega
        have HA := Lib.hid hA
        have HB := Lib.hid hb
        have HCH := Lib.hid hch
        clear hA hb hch hz hnp ha0 hp0
        by_cases h3 : r0 < 2181843386368 ∨ 2216203124736 < r0
        · have HK := right_ret r0
          rw [show (decide (2181843386368 ≤ r0) && decide (r0 ≤ 2216203124736)) = false by rw [Bool.and_eq_false_iff]; exact h3.elim (fun h => .inl (decide_eq_false (by omega))) (fun h => .inr (decide_eq_false (by omega)))] at HK
          have hE : chkFrom (-1) ts = 50 := by rw [← HCH.out]; unfold chkFrom; rw [if_neg h12, if_pos h3]
          have HE := Lib.hid hE
          clear h12 h3 hE
          go_wp2_with fail
          go_quiet (fail)
          go_wp2_with (go_at_call 22; (with_reducible refine (HK.go _).mono ?_); rintro e w1 ⟨rfl, rfl⟩)
          go_ret
          exact ⟨by rw [HE.out]; rfl, HB.out.trans ⟨rfl, rfl, rfl, Nat.le_refl _, fun _ _ => rfl⟩⟩
        · have HK := right_ret r0
          rw [show (decide (2181843386368 ≤ r0) && decide (r0 ≤ 2216203124736)) = true by rw [Bool.and_eq_true]; exact ⟨decide_eq_true (by omega), decide_eq_true (by omega)⟩] at HK
          have hE : chkFrom a0 (ts.drop (k + 1)) = chkFrom (-1) ts := by rw [← HCH.out, show chkFrom (-1) ((a0, r0) :: ts.drop (k + 1)) = (if 1099511627776 < a0 ∨ a0 ≤ -1 then 31 else if r0 < 2181843386368 ∨ 2216203124736 < r0 then 50 else chkFrom a0 (ts.drop (k + 1))) from rfl, if_neg h12, if_neg h3]
          have HE := Lib.hid hE
          clear h12 h3 hE
          go_wp2_with fail
          go_quiet (fail)
          go_wp2_with (go_at_call 22; (with_reducible refine (HK.go _).mono ?_); rintro e w1 ⟨rfl, rfl⟩)
          go_roundw
          case rel => exact ⟨k + 1, by rw [HN.out]; omega, by go_num, by rw [show prev ts (k + 1) = tA ts k by unfold prev; rw [if_neg (by omega), Nat.add_sub_cancel]]; rw [HA.out]; exact HE.out, c2, c3, HB.out.trans ⟨rfl, rfl, rfl, Nat.le_refl _, fun _ _ => rfl⟩⟩
          case measure => simp [intOf]; omega
      · obtain ⟨j, hj⟩ : ∃ j, k = j + 1 := ⟨k - 1, by omega⟩
        have hp1 : prev ts k = tA ts j := by unfold prev; rw [if_neg (by omega), hj, Nat.add_sub_cancel]
        rw [hp1] at hch
        have e3 := (hb.cell hla).trans (HC.out j (by omega)).1
        have hw1 : IntKind.i64.wrap ((k : Int) - 1) = (j : Int) := by rw [IntWalk.i64_in _ (by omega)]; omega
        have hk0 : decide ((0 : Int) < (k : Int)) = true := decide_eq_true (by omega)
        have hjn : j < n := by omega
        have hk1 : decide (0 < k) = true := decide_eq_true (by omega)
        generalize hA : tA ts k = a0 at *
        generalize tA ts j = p at *
        generalize tR ts k = r0 at *
        have HA := Lib.hid hA
        have HB := Lib.hid hb
        have HCH := Lib.hid hch
        have HJ := Lib.hid hj
        clear hA hb hch hp1 hj hpos
        by_cases h1 : 1099511627776 < a0
        · have hq : decide (1099511627776 < a0) = true := decide_eq_true h1
          have hE : chkFrom (-1) ts = 31 := by rw [← HCH.out]; unfold chkFrom; rw [if_pos (.inl h1)]
          have HE := Lib.hid hE
          clear h1 hE
          go_wp2_with fail
          go_quiet (fail)
          go_wp2_with fail
          go_ret
          exact ⟨by rw [HE.out]; rfl, HB.out.trans ⟨rfl, rfl, rfl, Nat.le_refl _, fun _ _ => rfl⟩⟩
        have hq : decide (1099511627776 < a0) = false := decide_eq_false h1
        by_cases h2 : a0 ≤ p
        · have hq2 : decide (a0 ≤ p) = true := decide_eq_true h2
          have hE : chkFrom (-1) ts = 31 := by rw [← HCH.out]; unfold chkFrom; rw [if_pos (.inr h2)]
          have HE := Lib.hid hE
          clear h1 h2 hE
          go_wp2_with fail
          go_quiet (fail)
          go_wp2_with fail
          go_ret
          exact ⟨by rw [HE.out]; rfl, HB.out.trans ⟨rfl, rfl, rfl, Nat.le_refl _, fun _ _ => rfl⟩⟩
        have hq2 : decide (a0 ≤ p) = false := decide_eq_false h2
        have h12 : ¬ (1099511627776 < a0 ∨ a0 ≤ p) := by omega
        clear h1 h2
        by_cases h3 : r0 < 2181843386368 ∨ 2216203124736 < r0
        · have HK := right_ret r0
          rw [show (decide (2181843386368 ≤ r0) && decide (r0 ≤ 2216203124736)) = false by rw [Bool.and_eq_false_iff]; exact h3.elim (fun h => .inl (decide_eq_false (by omega))) (fun h => .inr (decide_eq_false (by omega)))] at HK
          have hE : chkFrom (-1) ts = 50 := by rw [← HCH.out]; unfold chkFrom; rw [if_neg h12, if_pos h3]
          have HE := Lib.hid hE
          clear h12 h3 hE
          go_wp2_with fail
          go_quiet (fail)
          go_wp2_with (go_at_call 22; (with_reducible refine (HK.go _).mono ?_); rintro e w1 ⟨rfl, rfl⟩)
          go_ret
          exact ⟨by rw [HE.out]; rfl, HB.out.trans ⟨rfl, rfl, rfl, Nat.le_refl _, fun _ _ => rfl⟩⟩
        · have HK := right_ret r0
          rw [show (decide (2181843386368 ≤ r0) && decide (r0 ≤ 2216203124736)) = true by rw [Bool.and_eq_true]; exact ⟨decide_eq_true (by omega), decide_eq_true (by omega)⟩] at HK
          have hE : chkFrom a0 (ts.drop (k + 1)) = chkFrom (-1) ts := by rw [← HCH.out, show chkFrom p ((a0, r0) :: ts.drop (k + 1)) = (if 1099511627776 < a0 ∨ a0 ≤ p then 31 else if r0 < 2181843386368 ∨ 2216203124736 < r0 then 50 else chkFrom a0 (ts.drop (k + 1))) from rfl, if_neg h12, if_neg h3]
          have HE := Lib.hid hE
          clear h12 h3 hE
          go_wp2_with fail
          go_quiet (fail)
          go_wp2_with (go_at_call 22; (with_reducible refine (HK.go _).mono ?_); rintro e w1 ⟨rfl, rfl⟩)
          go_roundw
          case rel => exact ⟨k + 1, by rw [HN.out]; omega, by go_num, by rw [show prev ts (k + 1) = tA ts k by unfold prev; rw [if_neg (by omega), Nat.add_sub_cancel]]; rw [HA.out]; exact HE.out, c2, c3, HB.out.trans ⟨rfl, rfl, rfl, Nat.le_refl _, fun _ _ => rfl⟩⟩
          case measure => simp [intOf]; omega
    · obtain rfl : k = n := by omega
      have hd : decide ((k : Int) < (k : Int)) = false := decide_eq_false (by omega)
      have hE : chkFrom (-1) ts = 0 := by rw [← hch, ← HN.out, List.drop_length]; rfl
      have HE := Lib.hid hE
      have HB := Lib.hid hb
      clear hch hE hb
      go_wp2_with fail
      go_ret
      exact ⟨by rw [HE.out]; rfl, HB.out⟩

end Go.Proofs.Ytffjbngelapmmaa
