/- Package ether: Decode, whatever the bytes. -/
import Derived.Test.YtbpkjljienadiaaEDec
import Derived.Test.YtbpkjljienadiaaOpen
namespace Go.Proofs.Ytbpkjljienadiaa
open Go.RowKit Go.Joins

theorem body_len (b : List Nat) : (Fr.body b).length = b.length - 4 := by unfold Fr.body; rw [List.length_take]; omega
theorem body_bytes {b : List Nat} (h : Crc.Bytes b) : Crc.Bytes (Fr.body b) := Crc.bytes_take h _

theorem bne_of {x : Nat} (h : ¬ x = 0) : (((x : Nat) : Int) != 0) = true := by rw [bne_iff_ne]; omega
/-- What Open leaves, and what is made of it. -/
theorem open_then {v : Value} {b : List Nat} {w : World} (h : BArg w v b) (h64 : 64 ≤ b.length) (hl : b.length ≤ 1600) (ho : Crc.opens b = true) :
    ∀ wx, Below w.heap.size w wx → w.heap.size < wx.heap.size → Calls Try.prog 28 #[v] wx fun e w' => ∃ v, e = .returned (.tuple #[v, .bool true]) ∧ Below wx.heap.size wx w' ∧
      (∀ w2, Below w'.heap.size w' w2 → Calls Try.prog 29 #[v] w2 fun e w3 => ∃ q k d, e = .returned (FV (Fr.parse (Fr.body b)) (.slice q k d)) ∧ Below w2.heap.size w2 w3 ∧ DataAt w w3 (.slice q k d) (Fr.parse (Fr.body b)).data ∧
        Ret 15 #[FV (Fr.parse (Fr.body b)) (.slice q k d)] (.int .i64 ((Fr.parse (Fr.body b)).chk : Int)) ∧
        ((Fr.parse (Fr.body b)).chk = 0 → ∀ w4, Below w3.heap.size w3 w4 → Calls Try.prog 25 #[FV (Fr.parse (Fr.body b)) (.slice q k d)] w4 fun e w5 => ∃ v5, e = .returned v5 ∧ Below w4.heap.size w4 w5 ∧
          Calls Try.prog 30 #[v5, v] w5 fun e w6 => e = .returned (.bool (decide ((Fr.parse (Fr.body b)).text = Fr.body b))) ∧ w5 = w6)) := by
  intro wx hb hlt
  refine (open_any (h.below hb) (by omega)).mono fun e w' hh => ?_
  rcases hh with ⟨_, v1, rfl, hown⟩ | ⟨h1, _⟩
  · refine ⟨v1, rfl, hown.bel, fun w2 hb2 => ?_⟩
    have hown2 : OwnB wx w2 v1 (Fr.body b) := hown.below hb2
    obtain ⟨g, c, rfl, hc, hg, hg2⟩ := hown2.form
    have hx := body_bytes h.1
    have hbl := body_len b
    have hr : Rd w2 g 0 (Fr.body b) := fun _ => ⟨hg2, fun k hk => by rw [Nat.zero_add]; exact hown2.cell hk⟩
    refine (read_any _ c g (Fr.body b) w2 hx hr rfl (by omega) hc (by omega)).mono fun e w3 hh => ?_
    obtain ⟨v', rfl, hb3, hs⟩ := hh
    have hown3 := hown2.below hb3
    have hwf := Fr.parse_wf hx
    have hdl : (Fr.parse (Fr.body b)).data.length ≤ 1600 := by
      show ((Fr.body b).drop _ |>.take _).length ≤ 1600
      rw [List.length_take, List.length_drop]; omega
    have ha := hs.arg
    obtain ⟨q, d, rfl⟩ := ha.slice
    refine ⟨q, _, d, rfl, hb3, ⟨g, by omega, hs, fun k => hown3.frozen k⟩, check_ret _ q _ d rfl (by omega), fun h0 w4 hb4 => ?_⟩
    refine (text_any _ _ w4 (Fr.chk_zero.1 h0).1 hwf (by omega) (ha.below hb4)).mono fun e w5 hh => ?_
    obtain ⟨v5, rfl, hown5⟩ := hh
    refine ⟨v5, rfl, hown5.bel, ?_⟩
    exact equal_any hown5.arg ((hown3.below hb4).below hown5.bel).arg _ rfl
  · rw [h1] at ho; cases ho

theorem decode_any {v : Value} {b : List Nat} {w : World} (h : BArg w v b) : Calls Try.prog 16 #[v] w (DecPost w b) := by
  obtain ⟨p, c, rfl⟩ := h.slice
  rcases Nat.lt_or_ge b.length 64 with h64 | h64
  · have e : Fr.dchk b = 20 := by unfold Fr.dchk; rw [if_pos h64]
    refine (dec_short p _ c h64 w).mono fun e' w' hh => ⟨hh.2, .inr ⟨by rw [e]; decide, by rw [e]; exact hh.1⟩⟩
  rcases Nat.lt_or_ge 1600 b.length with hL | hL
  · have e : Fr.dchk b = 3 := by unfold Fr.dchk; rw [if_neg (by omega), if_pos hL]
    refine (dec_long p _ c hL w).mono fun e' w' hh => ⟨hh.2, .inr ⟨by rw [e]; decide, by rw [e]; exact hh.1⟩⟩
  cases ho : Crc.opens b with
  | false =>
    have e : Fr.dchk b = 22 := by unfold Fr.dchk; rw [if_neg (by omega), if_neg (by omega), if_pos ho]
    refine (dec_sum p _ c h64 hL w (Lib.hid fun wx hb => ?_)).mono fun e' w' hh => ⟨hh.2, .inr ⟨by rw [e]; decide, by rw [e]; exact hh.1⟩⟩
    refine (open_any (h.below hb) (by omega)).mono fun e w' hh => ?_
    rcases hh with ⟨h1, _⟩ | ⟨_, h2⟩
    · rw [ho] at h1; cases h1
    · exact h2
  | true =>
    have hop := open_then h h64 hL ho
    have hd : Fr.dchk b = if Fr.good b = false then 21 else 0 := by unfold Fr.dchk; rw [if_neg (by omega), if_neg (by omega), if_neg (by rw [ho]; decide)]
    by_cases h0 : (Fr.parse (Fr.body b)).chk = 0
    · by_cases ht : (Fr.parse (Fr.body b)).text = Fr.body b
      · have e : Fr.dchk b = 0 := by rw [hd, if_neg (by unfold Fr.good; rw [decide_eq_true h0, decide_eq_true ht]; decide)]
        refine (dec_good p _ c h64 hL w (Fr.parse (Fr.body b)) (Fr.parse (Fr.body b)).data (Lib.hid fun wx hb hlt => ?_)).mono fun e' w' hh => ?_
        · refine (hop wx hb hlt).mono fun e1 w1 hh => ?_
          obtain ⟨v1, e1, hb1, hr⟩ := hh
          refine ⟨v1, e1, hb1, fun w2 hb2 => (hr w2 hb2).mono fun e2 w3 hh => ?_⟩
          obtain ⟨q, k, d, e2, hb3, hda, hk, htx⟩ := hh
          rw [h0] at hk
          refine ⟨q, k, d, e2, hb3, hda, hk, fun w4 hb4 => ?_⟩
          have := htx h0 w4 hb4
          rw [decide_eq_true ht] at this
          exact this
        · obtain ⟨v', e1, hb, hda⟩ := hh
          exact ⟨hb, .inl ⟨e, v', e1, hda⟩⟩
      · have e : Fr.dchk b = 21 := by rw [hd, if_pos (by unfold Fr.good; rw [decide_eq_false ht, Bool.and_false])]
        refine (dec_text p _ c h64 hL w (Fr.parse (Fr.body b)) false rfl (Lib.hid fun wx hb hlt => ?_)).mono fun e' w' hh => ⟨hh.2, .inr ⟨by rw [e]; decide, by rw [e]; exact hh.1⟩⟩
        refine (hop wx hb hlt).mono fun e1 w1 hh => ?_
        obtain ⟨v1, e1, hb1, hr⟩ := hh
        refine ⟨v1, e1, hb1, fun w2 hb2 => (hr w2 hb2).mono fun e2 w3 hh => ?_⟩
        obtain ⟨q, k, d, e2, hb3, hda, hk, htx⟩ := hh
        rw [h0] at hk
        refine ⟨q, k, d, e2, hb3, hk, fun w4 hb4 => ?_⟩
        have := htx h0 w4 hb4
        rw [decide_eq_false ht] at this
        exact this
    · have e : Fr.dchk b = 21 := by rw [hd, if_pos (by unfold Fr.good; rw [decide_eq_false h0, Bool.false_and])]
      refine (dec_bad p _ c h64 hL w (Fr.parse (Fr.body b)) _ (bne_of h0) (Lib.hid fun wx hb hlt => ?_)).mono fun e' w' hh => ⟨hh.2, .inr ⟨by rw [e]; decide, by rw [e]; exact hh.1⟩⟩
      refine (hop wx hb hlt).mono fun e1 w1 hh => ?_
      obtain ⟨v1, e1, hb1, hr⟩ := hh
      refine ⟨v1, e1, hb1, fun w2 hb2 => (hr w2 hb2).mono fun e2 w3 hh => ?_⟩
      obtain ⟨q, k, d, e2, hb3, hda, hk, htx⟩ := hh
      exact ⟨q, k, d, e2, hb3, hk⟩

end Go.Proofs.Ytbpkjljienadiaa
