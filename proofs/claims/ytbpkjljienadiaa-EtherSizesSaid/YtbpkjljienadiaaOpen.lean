/- Package fcs: Open; the reference's word for it. -/
import Derived.Test.YtbpkjljienadiaaWrong
namespace Go.Proofs.Ytbpkjljienadiaa
open Go.RowKit Go.Joins

theorem open_short (p : Option Addr) (n c : Nat) (hn : n < 4) (w : World) :
    Calls Try.prog 28 #[.slice p n c] w fun e w' => e = .returned (.tuple #[.slice none 0 0, .bool false]) ∧ Below w.heap.size w w' := by
  go_enter Try.func28, Try.ntmps28
  go_wp2_with fail
  go_ret2
  exact ⟨rfl, bRef w⟩

theorem open_wrong (a : Addr) (m c x : Nat) (w : World) (hx : ((x : Int) != 0) = true)
    (HW : Calls Try.prog 37 #[.slice (some a) (m + 4) c] w fun e w' => e = .returned (.int .u32 (x : Int)) ∧ Below w.heap.size w w') :
    Calls Try.prog 28 #[.slice (some a) (m + 4) c] w fun e w' => e = .returned (.tuple #[.slice none 0 0, .bool false]) ∧ Below w.heap.size w w' := by
  have HW' := Lib.hid HW
  clear HW
  go_enter Try.func28, Try.ntmps28
  go_wp2_with (go_at_call 37; (with_reducible refine HW'.out.mono ?_); rintro e w1 ⟨rfl, hb⟩; have HB := Lib.hid hb; clear hb)
  go_ret2
  exact ⟨rfl, HB.out⟩

theorem open_ok (b o m c : Nat) (ps : List Nat) (w : World) (hm : ps.length = m) (hc : m + 4 ≤ c) (hl : m ≤ 140737488355000) (hA : BArg w (.slice (some ⟨b, o, none⟩) m c) ps)
    (HW : Calls Try.prog 37 #[.slice (some ⟨b, o, none⟩) (m + 4) c] w fun e w' => e = .returned (.int .u32 0) ∧ Below w.heap.size w w') :
    Calls Try.prog 28 #[.slice (some ⟨b, o, none⟩) (m + 4) c] w fun e w' => ∃ v, e = .returned (.tuple #[v, .bool true]) ∧ OwnB w w' v ps := by
  have HW' := Lib.hid HW
  have HA := Lib.hid hA
  have HL := Lib.hid (show ps.length ≤ 140737488355328 by omega)
  clear HW hA hm
  go_enter Try.func28, Try.ntmps28
  go_wp2_with (first
    | (go_at_call 37; (with_reducible refine HW'.out.mono ?_); rintro e w1 ⟨rfl, hb⟩; have HB := Lib.hid hb; clear hb)
    | (go_at_call 38; (with_reducible refine (clone_some (HA.out.below HB.out) HL.out).mono ?_); rintro e w2 ⟨v2, rfl, hown⟩; have HO := Lib.hid hown; clear hown))
  go_ret2
  exact ⟨_, rfl, OwnB.from HB.out HO.out⟩

/-- What Open answers. -/
def OpenPost (w : World) (xs : List Nat) (e : Ending) (w' : World) : Prop :=
  (Crc.opens xs = true ∧ ∃ v, e = .returned (.tuple #[v, .bool true]) ∧ OwnB w w' v (xs.take (xs.length - 4))) ∨
  (Crc.opens xs = false ∧ e = .returned (.tuple #[.slice none 0 0, .bool false]) ∧ Below w.heap.size w w')

theorem opens_short {xs : List Nat} (h : xs.length < 4) : Crc.opens xs = false := by
  unfold Crc.opens; rw [decide_eq_false (by omega)]; rfl
theorem opens_long {xs : List Nat} (h : 4 ≤ xs.length) : Crc.opens xs = (Crc.wrong xs == 0) := by
  unfold Crc.opens; rw [decide_eq_true h]; rfl

theorem open_any {v : Value} {xs : List Nat} {w : World} (h : BArg w v xs) (hl : xs.length ≤ 140737488355000) :
    Calls Try.prog 28 #[v] w (OpenPost w xs) := by
  rcases Nat.lt_or_ge xs.length 4 with h4 | h4
  · obtain ⟨p, c, rfl⟩ := h.slice
    exact (open_short p _ c h4 w).mono fun e w' hh => .inr ⟨opens_short h4, hh⟩
  have HW := wrong_any h h4 hl
  have hop := opens_long h4
  obtain ⟨h1, h2⟩ := h
  rcases h2 with ⟨rfl, _⟩ | ⟨h0, b, o, c, rfl, hc, hr⟩
  · simp at h4
  have hp : (xs.take (xs.length - 4)).length = xs.length - 4 := by rw [List.length_take]; omega
  have e4 : xs.length - 4 + 4 = xs.length := by omega
  by_cases hz : Crc.wrong xs = 0
  · rw [hz] at HW hop
    have ha : BArg w (.slice (some ⟨b, o, none⟩) (xs.length - 4) c) (xs.take (xs.length - 4)) := by
      refine ⟨Crc.bytes_take h1 _, ?_⟩
      rcases Nat.eq_zero_or_pos (xs.length - 4) with g0 | g0
      · exact .inl ⟨by rw [g0]; rfl, _, c, by rw [g0], fun e => by cases e⟩
      · exact .inr ⟨by omega, b, o, c, by rw [hp], by omega, hr.take _⟩
    rw [← e4] at HW
    have := open_ok b o (xs.length - 4) c (xs.take (xs.length - 4)) w hp (by omega) (by omega) ha HW
    rw [e4] at this
    exact this.mono fun e w' hh => .inl ⟨hop, hh⟩
  · rw [beq_eq_false_iff_ne.2 hz] at hop
    rw [← e4] at HW
    have := open_wrong ⟨b, o, none⟩ (xs.length - 4) c (Crc.wrong xs) w (by rw [bne_iff_ne]; omega) HW
    rw [e4] at this
    exact this.mono fun e w' hh => .inr ⟨hop, hh⟩

/-- The reference's Opens. -/
theorem opens_no (p : Option Addr) (n c : Nat) (hn : n < 4) (w : World) :
    Calls Try.prog 31 #[.slice p n c] w fun e w' => e = .returned (.bool false) ∧ Below w.heap.size w w' := by
  go_enter Try.func31, Try.ntmps31
  go_wp2_with fail
  go_ret
  exact ⟨rfl, bRef w⟩

theorem opens_yes (b o m c : Nat) (ps xs : List Nat) (w : World) (x : Bool) (hx : decide (Crc.close ps = xs) = x) (hm : ps.length = m) (hc : m + 4 ≤ c) (hl : m ≤ 140737488355000) (hA : BArg w (.slice (some ⟨b, o, none⟩) m c) ps) (hX : BArg w (.slice (some ⟨b, o, none⟩) (m + 4) c) xs) :
    Calls Try.prog 31 #[.slice (some ⟨b, o, none⟩) (m + 4) c] w fun e w' => e = .returned (.bool x) ∧ Below w.heap.size w w' := by
  have HC := Lib.hid (rclose_any hA (by omega))
  have HX := Lib.hid hX
  have Hx := Lib.hid hx
  clear hA hm hX hx
  go_enter Try.func31, Try.ntmps31
  go_wp2_with (first
    | (go_at_call 20; (with_reducible refine HC.out.mono ?_); rintro e w1 ⟨v1, rfl, hown⟩; have HO := Lib.hid hown; clear hown)
    | (go_at_call 14; (with_reducible refine (same_any HO.out.arg (HX.out.below HO.out.bel) x Hx.out).mono ?_); rintro e w2 ⟨rfl, rfl⟩))
  go_ret
  exact ⟨rfl, HO.out.bel⟩

theorem ropens_any {v : Value} {xs : List Nat} {w : World} (h : BArg w v xs) (hl : xs.length ≤ 140737488355000) :
    Calls Try.prog 31 #[v] w fun e w' => e = .returned (.bool (Crc.opens xs)) ∧ Below w.heap.size w w' := by
  rcases Nat.lt_or_ge xs.length 4 with h4 | h4
  · obtain ⟨p, c, rfl⟩ := h.slice
    rw [opens_short h4]
    exact opens_no p _ c h4 w
  have hop := Crc.opens_iff xs h.1
  rw [decide_eq_true h4, Bool.true_and] at hop
  have h' := h
  obtain ⟨h1, h2⟩ := h
  rcases h2 with ⟨rfl, _⟩ | ⟨h0, b, o, c, rfl, hc, hr⟩
  · simp at h4
  have hp : (xs.take (xs.length - 4)).length = xs.length - 4 := by rw [List.length_take]; omega
  have e4 : xs.length - 4 + 4 = xs.length := by omega
  have ha : BArg w (.slice (some ⟨b, o, none⟩) (xs.length - 4) c) (xs.take (xs.length - 4)) := by
    refine ⟨Crc.bytes_take h1 _, ?_⟩
    rcases Nat.eq_zero_or_pos (xs.length - 4) with g0 | g0
    · exact .inl ⟨by rw [g0]; rfl, _, c, by rw [g0], fun e => by cases e⟩
    · exact .inr ⟨by omega, b, o, c, by rw [hp], by omega, hr.take _⟩
  have := opens_yes b o (xs.length - 4) c (xs.take (xs.length - 4)) xs w (Crc.opens xs) hop.symm hp (by omega) (by omega) ha (by rw [e4]; exact h')
  rw [e4] at this
  exact this

end Go.Proofs.Ytbpkjljienadiaa
