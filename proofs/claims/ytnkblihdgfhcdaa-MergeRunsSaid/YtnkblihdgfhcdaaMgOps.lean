/- Package merge: In, Look, Silent, Counts. -/
import Derived.Test.YtnkblihdgfhcdaaMgMem
namespace Go.Proofs.Ytnkblihdgfhcdaa
open Go.RowKit Go.Joins

def taken (x : Int) : Prop := x = 0 ∨ x = 3
instance (x : Int) : Decidable (taken x) := by unfold taken; infer_instance
theorem taken_yes (x : Int) (h : taken x) (w : World) : Calls Try.prog 42 #[.int .i64 x] w fun e w' => e = .returned (.bool true) ∧ w' = w := by
  rcases h with rfl | rfl
  all_goals
    go_enter Try.func42, Try.ntmps42
    go_wp2_with fail
    go_ret
    exact ⟨rfl, rfl⟩
theorem taken_no (x : Int) (h : ¬ taken x) (w : World) : Calls Try.prog 42 #[.int .i64 x] w fun e w' => e = .returned (.bool false) ∧ w' = w := by
  have d0 : (x == 0) = false := by simp; exact fun e => h (.inl e)
  have d3 : (x == 3) = false := by simp; exact fun e => h (.inr e)
  clear h
  go_enter Try.func42, Try.ntmps42
  go_wp2_with fail
  go_ret
  exact ⟨rfl, rfl⟩

/-- What passes its way. -/
def MG.passes (m : MG) (now : Int) (way : Nat) (seq : Int) : Prop := taken ((m.ones way).told now seq)
def MG.told (m : MG) (now : Int) (way : Nat) (seq : Int) : Prop := m.passes now way seq ∧ taken (m.all.told now seq)
instance (m : MG) (now : Int) (way : Nat) (seq : Int) : Decidable (m.passes now way seq) := by unfold MG.passes; infer_instance
instance (m : MG) (now : Int) (way : Nat) (seq : Int) : Decidable (m.told now way seq) := by unfold MG.told; infer_instance
def MG.onto (m : MG) (now : Int) (way : Nat) (seq : Int) : MG := { m with ones := upd m.ones way ((m.ones way).into now seq) }
def MG.shorted (m : MG) (y : Int) : MG := if taken y then { m with short := wrap64 (m.short + ((m.n : Int) - 1)) } else if y = 1 then { m with short := wrap64 (m.short - 1) } else m
def MG.into (m : MG) (now : Int) (way : Nat) (seq : Int) : MG :=
  if m.passes now way seq then ({ m.onto now way seq with all := m.all.into now seq }).shorted (m.all.told now seq) else m.onto now way seq
structure MG.Good (m : MG) : Prop where
  n1 : 1 ≤ m.n
  n8 : m.n ≤ 8
  ones : ∀ i, i < m.n → (m.ones i).Good
  all : m.all.Good
theorem MG.Good.into {m : MG} (g : m.Good) {now : Int} {way : Nat} {seq : Int} (n0 : -9223372036854775808 ≤ now) (n1 : now < 9223372036854775808) (h0 : 0 ≤ seq) (h1 : seq < 65536) : (m.into now way seq).Good := by
  have k : (m.onto now way seq).Good := ⟨g.n1, g.n8, fun i hi => by
    show (upd m.ones way _ i).Good
    by_cases e : i = way
    · subst e; rw [upd_same]; exact (g.ones i hi).into n0 n1 h0 h1
    · rw [upd_other _ _ e]; exact g.ones i hi, g.all⟩
  unfold MG.into
  split
  · unfold MG.shorted
    repeat' split
    all_goals exact ⟨k.n1, k.n8, k.ones, g.all.into n0 n1 h0 h1⟩
  · exact k
theorem into_n (m : MG) (now : Int) (way : Nat) (seq : Int) : (m.into now way seq).n = m.n := by
  unfold MG.into MG.shorted
  repeat' split
  all_goals rfl

theorem min_nil (now way seq : Int) (w : World) : Calls Try.prog 30 #[.pointer none, .int .i64 now, .int .i64 way, .int .i64 seq] w fun e w' => e = .returned (.tuple #[.bool false, .int .i64 1]) ∧ w' = w := by
  go_enter Try.func30, Try.ntmps30
  go_wp2_with fail
  go_ret2
  exact ⟨rfl, rfl⟩
section
variable {w w' : World} {b lo hi : Nat} {m : MG}
theorem min_port (h : Mg w b lo hi m) (now way seq : Int) (hw : way < 0 ∨ (m.n : Int) ≤ way) : Calls Try.prog 30 #[.pointer (some ⟨b, 0, none⟩), .int .i64 now, .int .i64 way, .int .i64 seq] w fun e w' => e = .returned (.tuple #[.bool false, .int .i64 40]) ∧ w' = w := by
  obtain ⟨g, cap, ba, bs, h⟩ := h
  obtain ⟨k0, k1, k2, k3, k4, k5, k6, f4, f5, f6⟩ := h.c
  by_cases h1 : way < 0
  · have d1 : decide (way < 0) = true := decide_eq_true h1
    clear h hw h1
    go_enter Try.func30, Try.ntmps30
    go_wp2_with fail
    go_ret2
    exact ⟨rfl, rfl⟩
  · have d1 : decide (way < 0) = false := decide_eq_false h1
    have d2 : decide ((m.n : Int) ≤ way) = true := decide_eq_true (by omega)
    clear h hw h1
    go_enter Try.func30, Try.ntmps30
    go_wp2_with fail
    go_ret2
    exact ⟨rfl, rfl⟩
set_option maxHeartbeats 1000000 in
theorem min_bad (h : Mg w b lo hi m) (now seq : Int) (way : Nat) (hw : way < m.n) (hs : seq < 0 ∨ 65536 ≤ seq) : Calls Try.prog 30 #[.pointer (some ⟨b, 0, none⟩), .int .i64 now, .int .i64 (way : Int), .int .i64 seq] w fun e w' => e = .returned (.tuple #[.bool false, .int .i64 1]) ∧ w' = w := by
  obtain ⟨g, cap, ba, bs, h⟩ := h
  obtain ⟨k0, k1, k2, k3, k4, k5, k6, f4, f5, f6⟩ := h.c
  have ka := h.at hw
  have d1 : decide ((way : Int) < 0) = false := decide_eq_false (by omega)
  have d2 : decide ((m.n : Int) ≤ (way : Int)) = false := decide_eq_false (by omega)
  have i1 : (0 : Int) ≤ (way : Int) := by omega
  have i2 : (way : Int) < (m.n : Int) := by omega
  have HI := Lib.hid (fun W => in_bad (bs way) now seq W hs)
  clear h hs
  go_enter Try.func30, Try.ntmps30
  go_wp2_with (go_at_call 16; (with_reducible refine (HI.out _).mono ?_); rintro e w1 ⟨rfl, rfl⟩)
  go_ret2
  exact ⟨rfl, rfl⟩
set_option maxHeartbeats 4000000 in
theorem min_ok (h : Mg w b lo hi m) (G : m.Good) (now seq : Int) (way : Nat) (hw : way < m.n) (n0 : -9223372036854775808 ≤ now) (n1 : now < 9223372036854775808) (h0 : 0 ≤ seq) (h1 : seq < 65536) :
    Calls Try.prog 30 #[.pointer (some ⟨b, 0, none⟩), .int .i64 now, .int .i64 (way : Int), .int .i64 seq] w fun e w' => e = .returned (.tuple #[.bool (decide (m.told now way seq)), .int .i64 0]) ∧ Mg w' b lo hi (m.into now way seq) ∧ ButI lo hi w w' := by
  obtain ⟨g, cap, ba, bs, h⟩ := h
  obtain ⟨k0, k1, k2, k3, k4, k5, k6, f4, f5, f6⟩ := h.c
  have ka := h.at hw
  have d1 : decide ((way : Int) < 0) = false := decide_eq_false (by omega)
  have d2 : decide ((m.n : Int) ≤ (way : Int)) = false := decide_eq_false (by omega)
  have i1 : (0 : Int) ≤ (way : Int) := by omega
  have i2 : (way : Int) < (m.n : Int) := by omega
  have HI := Lib.hid (in_ok (h.ones way hw) (G.ones way hw) now seq n0 n1 h0 h1)
  have HA := Lib.hid (fun W (hW : Sq W ba m.all) => in_ok hW G.all now seq n0 n1 h0 h1)
  have H := Lib.hid h
  have HW := Lib.hid hw
  have hn8 := G.n8
  have hn1 := G.n1
  have e1 : wrap64 ((m.n : Int) - 1) = (m.n : Int) - 1 := by unfold wrap64; omega
  clear h hw n0 n1 h0 h1 G
  by_cases hp : m.passes now way seq
  · have eI : m.into now way seq = ({ m.onto now way seq with all := m.all.into now seq }).shorted (m.all.told now seq) := by unfold MG.into; rw [if_pos hp]
    have eT : decide (m.told now way seq) = decide (taken (m.all.told now seq)) := by
      rw [Bool.eq_iff_iff, decide_eq_true_eq, decide_eq_true_eq]; exact ⟨fun h => h.2, fun h => ⟨hp, h⟩⟩
    rw [eI, eT]
    have hp' : taken ((m.ones way).told now seq) := hp
    have eO : (m.onto now way seq).ones = upd m.ones way ((m.ones way).into now seq) := rfl
    have hy := noted_two (m.all.fresh now) seq
    change m.all.told now seq = 0 ∨ m.all.told now seq = 1 ∨ m.all.told now seq = 2 ∨ m.all.told now seq = 3 at hy
    have HX : Hid (∀ W, MgI W b lo hi (m.onto now way seq) g cap ba bs → Sq W ba m.all) := Lib.hid (fun W hW => hW.all)
    have H2 : Hid (∀ W, ButB (bs way) w W → Sq W (bs way) ((m.ones way).into now seq) → MgI W b lo hi (m.onto now way seq) g cap ba bs) := Lib.hid (fun W hb hs => H.out.one HW.out hb hs)
    have HNs : (m.onto now way seq).n = m.n := rfl
    generalize (m.ones way).into now seq = o2 at *
    generalize (m.ones way).told now seq = x at *
    generalize m.all.into now seq = a2 at *
    generalize m.all.told now seq = y at *
    generalize m.onto now way seq = mo at *
    have HT := Lib.hid (fun W => taken_yes x hp' W)
    have HLS := Lib.hid (H.out.ls way HW.out)
    have HLA := Lib.hid H.out.la
    rw [← HNs] at e1
    clear hp hp' eI eT eO HNs
    rcases hy with rfl | rfl | rfl | rfl
    · have HY := Lib.hid (fun W => taken_yes 0 (by decide) W)
      rw [show decide (taken 0) = true from by decide]
      rw [show ({ mo with all := a2 } : MG).shorted 0 = { ({ mo with all := a2 } : MG) with short := wrap64 (mo.short + ((mo.n : Int) - 1)) } from rfl]
      go_enter Try.func30, Try.ntmps30
      go_wp2_with (first
        | (go_at_call 16; (with_reducible refine HI.out.mono ?_); rintro e w1 ⟨rfl, hm, hb⟩; have M1 := Lib.hid (H2.out _ hb hm); have HB1 := Lib.hid (ButI.of_sq (H.out.ones way HW.out) hb HLS.out.1 HLS.out.2); have q3 : w1.cell? ⟨b, 3, none⟩ = some (.pointer (some ⟨ba, 0, none⟩)) := M1.out.c.k3; clear hm hb)
        | (go_at_call 16; (with_reducible refine (HA.out _ (HX.out _ M1.out)).mono ?_); rintro e w2 ⟨rfl, hm, hb⟩; have M2 := Lib.hid (M1.out.allx hb hm); have HB2 := Lib.hid (HB1.out.trans (ButI.of_sq (HX.out _ M1.out) hb HLA.out.1 HLA.out.2)); have q2 : w2.cell? ⟨b, 2, none⟩ = some (.slice (some ⟨g, 0, none⟩) mo.n cap) := M2.out.c.k2; have q5 : w2.cell? ⟨b, 5, none⟩ = some (.int .i64 mo.short) := M2.out.c.k5; have q5f := M2.out.c.f5; clear hm hb)
        | (go_at_call 42; (with_reducible refine (HT.out _).mono ?_); rintro e wt ⟨rfl, rfl⟩)
        | (go_at_call 42; (with_reducible refine (HY.out _).mono ?_); rintro e wt ⟨rfl, rfl⟩))
      go_region
      all_goals go_wp2_with (go_at_call 42; (with_reducible refine (HY.out _).mono ?_); rintro e wt ⟨rfl, rfl⟩)
      all_goals go_ret2
      all_goals exact ⟨rfl, (M2.out.set5 _).drew.mg, (HB2.out.trans (M2.out.setB 5 _)).trans (ButI.of_below (bDr1 (bRef _)))⟩
    · have HY := Lib.hid (fun W => taken_no 1 (by decide) W)
      rw [show decide (taken 1) = false from by decide]
      rw [show ({ mo with all := a2 } : MG).shorted 1 = { ({ mo with all := a2 } : MG) with short := wrap64 (mo.short - 1) } from rfl]
      go_enter Try.func30, Try.ntmps30
      go_wp2_with (first
        | (go_at_call 16; (with_reducible refine HI.out.mono ?_); rintro e w1 ⟨rfl, hm, hb⟩; have M1 := Lib.hid (H2.out _ hb hm); have HB1 := Lib.hid (ButI.of_sq (H.out.ones way HW.out) hb HLS.out.1 HLS.out.2); have q3 : w1.cell? ⟨b, 3, none⟩ = some (.pointer (some ⟨ba, 0, none⟩)) := M1.out.c.k3; clear hm hb)
        | (go_at_call 16; (with_reducible refine (HA.out _ (HX.out _ M1.out)).mono ?_); rintro e w2 ⟨rfl, hm, hb⟩; have M2 := Lib.hid (M1.out.allx hb hm); have HB2 := Lib.hid (HB1.out.trans (ButI.of_sq (HX.out _ M1.out) hb HLA.out.1 HLA.out.2)); have q2 : w2.cell? ⟨b, 2, none⟩ = some (.slice (some ⟨g, 0, none⟩) mo.n cap) := M2.out.c.k2; have q5 : w2.cell? ⟨b, 5, none⟩ = some (.int .i64 mo.short) := M2.out.c.k5; have q5f := M2.out.c.f5; clear hm hb)
        | (go_at_call 42; (with_reducible refine (HT.out _).mono ?_); rintro e wt ⟨rfl, rfl⟩)
        | (go_at_call 42; (with_reducible refine (HY.out _).mono ?_); rintro e wt ⟨rfl, rfl⟩))
      go_ret2
      exact ⟨rfl, (M2.out.set5 _).mg, HB2.out.trans (M2.out.setB 5 _)⟩
    · have HY := Lib.hid (fun W => taken_no 2 (by decide) W)
      rw [show decide (taken 2) = false from by decide]
      rw [show ({ mo with all := a2 } : MG).shorted 2 = ({ mo with all := a2 } : MG) from rfl]
      go_enter Try.func30, Try.ntmps30
      go_wp2_with (first
        | (go_at_call 16; (with_reducible refine HI.out.mono ?_); rintro e w1 ⟨rfl, hm, hb⟩; have M1 := Lib.hid (H2.out _ hb hm); have HB1 := Lib.hid (ButI.of_sq (H.out.ones way HW.out) hb HLS.out.1 HLS.out.2); have q3 : w1.cell? ⟨b, 3, none⟩ = some (.pointer (some ⟨ba, 0, none⟩)) := M1.out.c.k3; clear hm hb)
        | (go_at_call 16; (with_reducible refine (HA.out _ (HX.out _ M1.out)).mono ?_); rintro e w2 ⟨rfl, hm, hb⟩; have M2 := Lib.hid (M1.out.allx hb hm); have HB2 := Lib.hid (HB1.out.trans (ButI.of_sq (HX.out _ M1.out) hb HLA.out.1 HLA.out.2)); have q2 : w2.cell? ⟨b, 2, none⟩ = some (.slice (some ⟨g, 0, none⟩) mo.n cap) := M2.out.c.k2; have q5 : w2.cell? ⟨b, 5, none⟩ = some (.int .i64 mo.short) := M2.out.c.k5; have q5f := M2.out.c.f5; clear hm hb)
        | (go_at_call 42; (with_reducible refine (HT.out _).mono ?_); rintro e wt ⟨rfl, rfl⟩)
        | (go_at_call 42; (with_reducible refine (HY.out _).mono ?_); rintro e wt ⟨rfl, rfl⟩))
      go_ret2
      exact ⟨rfl, M2.out.mg, HB2.out⟩
    · have HY := Lib.hid (fun W => taken_yes 3 (by decide) W)
      rw [show decide (taken 3) = true from by decide]
      rw [show ({ mo with all := a2 } : MG).shorted 3 = { ({ mo with all := a2 } : MG) with short := wrap64 (mo.short + ((mo.n : Int) - 1)) } from rfl]
      go_enter Try.func30, Try.ntmps30
      go_wp2_with (first
        | (go_at_call 16; (with_reducible refine HI.out.mono ?_); rintro e w1 ⟨rfl, hm, hb⟩; have M1 := Lib.hid (H2.out _ hb hm); have HB1 := Lib.hid (ButI.of_sq (H.out.ones way HW.out) hb HLS.out.1 HLS.out.2); have q3 : w1.cell? ⟨b, 3, none⟩ = some (.pointer (some ⟨ba, 0, none⟩)) := M1.out.c.k3; clear hm hb)
        | (go_at_call 16; (with_reducible refine (HA.out _ (HX.out _ M1.out)).mono ?_); rintro e w2 ⟨rfl, hm, hb⟩; have M2 := Lib.hid (M1.out.allx hb hm); have HB2 := Lib.hid (HB1.out.trans (ButI.of_sq (HX.out _ M1.out) hb HLA.out.1 HLA.out.2)); have q2 : w2.cell? ⟨b, 2, none⟩ = some (.slice (some ⟨g, 0, none⟩) mo.n cap) := M2.out.c.k2; have q5 : w2.cell? ⟨b, 5, none⟩ = some (.int .i64 mo.short) := M2.out.c.k5; have q5f := M2.out.c.f5; clear hm hb)
        | (go_at_call 42; (with_reducible refine (HT.out _).mono ?_); rintro e wt ⟨rfl, rfl⟩)
        | (go_at_call 42; (with_reducible refine (HY.out _).mono ?_); rintro e wt ⟨rfl, rfl⟩))
      go_region
      all_goals go_wp2_with (go_at_call 42; (with_reducible refine (HY.out _).mono ?_); rintro e wt ⟨rfl, rfl⟩)
      all_goals go_ret2
      all_goals exact ⟨rfl, (M2.out.set5 _).drew.mg, (HB2.out.trans (M2.out.setB 5 _)).trans (ButI.of_below (bDr1 (bRef _)))⟩
  · have eI : m.into now way seq = m.onto now way seq := by unfold MG.into; rw [if_neg hp]
    rw [eI, decide_eq_false (fun h => hp h.1)]
    have hp' : ¬ taken ((m.ones way).told now seq) := hp
    have H2 : Hid (∀ W, ButB (bs way) w W → Sq W (bs way) ((m.ones way).into now seq) → MgI W b lo hi (m.onto now way seq) g cap ba bs) := Lib.hid (fun W hb hs => H.out.one HW.out hb hs)
    generalize (m.ones way).into now seq = o2 at *
    generalize (m.ones way).told now seq = x at *
    generalize m.onto now way seq = mo at *
    have HT := Lib.hid (fun W => taken_no x hp' W)
    have HLS := Lib.hid (H.out.ls way HW.out)
    clear hp hp' eI
    go_enter Try.func30, Try.ntmps30
    go_wp2_with (first
      | (go_at_call 16; (with_reducible refine HI.out.mono ?_); rintro e w1 ⟨rfl, hm, hb⟩; have M1 := Lib.hid (H2.out _ hb hm); have HB1 := Lib.hid (ButI.of_sq (H.out.ones way HW.out) hb HLS.out.1 HLS.out.2); have q3 : w1.cell? ⟨b, 3, none⟩ = some (.pointer (some ⟨ba, 0, none⟩)) := M1.out.c.k3; clear hm hb)
      | (go_at_call 42; (with_reducible refine (HT.out _).mono ?_); rintro e wt ⟨rfl, rfl⟩))
    go_ret2
    exact ⟨rfl, M1.out.mg, HB1.out⟩
end

end Go.Proofs.Ytnkblihdgfhcdaa
