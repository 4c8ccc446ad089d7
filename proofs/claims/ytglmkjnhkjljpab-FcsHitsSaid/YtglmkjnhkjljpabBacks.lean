/- FcsBack: what was closed is opened as it was. -/
import Derived.Test.YtglmkjnhkjljpabFHead
namespace Go.Proofs.Ytglmkjnhkjljpab
open Go.RowKit Go.Joins

theorem open_close {v : Value} {xs : List Nat} {w : World} (hx : Crc.Bytes xs) (h : BArg w v (Crc.close xs)) (hl : xs.length ≤ 140737488354000) :
    Calls Try.prog 16 #[v] w fun e w' => ∃ v', e = .returned (.tuple #[v', .bool true]) ∧ OwnB w w' v' xs := by
  refine (open_any h (by rw [Crc.close_len]; omega)).mono fun e w' hh => ?_
  rcases hh with ⟨_, v', e1, h1⟩ | ⟨h1, _⟩
  · refine ⟨v', e1, own_eq h1 ?_⟩
    rw [Crc.close_len, Nat.add_sub_cancel]
    exact List.take_left
  · rw [Crc.opens_close xs hx] at h1; cases h1

theorem back_long (p : Option Addr) (n c : Nat) (hn : 2000 < n) (w : World) :
    Calls Try.prog 8 #[.slice p n c] w fun e w' => e = .returned (.bool true) ∧ Below w.heap.size w w' := by
  have HH := head_ret
  go_enter Try.func8, Try.ntmps8
  go_wp2_with (go_at_call 9; (with_reducible refine (HH.go _).mono ?_); rintro e w1 ⟨rfl, hb⟩)
  go_ret
  exact ⟨rfl, hb⟩

set_option maxHeartbeats 2000000 in
theorem back_mid (p : Option Addr) (n c : Nat) (xs : List Nat) (w : World) (h : BArg w (.slice p n c) xs) (hn : xs.length = n) (hl : n ≤ 2000) (hc : n ≤ c) :
    Calls Try.prog 8 #[.slice p n c] w fun e w' => e = .returned (.bool true) ∧ Below w.heap.size w w' := by
  have H := Lib.hid h
  have HX := Lib.hid h.1
  have HCX := Lib.hid (Crc.close_bytes xs h.1)
  have L1 := Lib.hid (show xs.length ≤ 140737488355000 by omega)
  have L2 := Lib.hid (show xs.length ≤ 140737488354000 by omega)
  have L3 := Lib.hid (show (Crc.close xs).length ≤ 140737488355000 by rw [Crc.close_len]; omega)
  have L4 := Lib.hid (show (Crc.close xs).length ≤ 140737488354000 by rw [Crc.close_len]; omega)
  have L5 := Lib.hid (show (Crc.close xs).length ≤ 140737488355328 by rw [Crc.close_len]; omega)
  have HSC := Lib.hid (Crc.sum_close xs h.1)
  have HS2 : Hid (∀ w' v', BArg w' v' (Crc.close xs) → Calls Try.prog 11 #[v'] w' fun e w2 => e = .returned (.int .u32 558161692) ∧ Below w'.heap.size w' w2) := Lib.hid (fun w' v' hb => (sum_any hb L5.out).mono fun e w2 hh => by
    obtain ⟨h1, h2⟩ := hh
    rw [HSC.out] at h1
    exact ⟨h1, h2⟩)
  have HH := head_ret
  clear h hn
  go_enter Try.func8, Try.ntmps8
  go_wp2_with (first
    | (go_at_call 9; (with_reducible refine (HH.go _).mono ?_); rintro e w1 ⟨rfl, hb⟩; have HB := Lib.hid hb; have HA := Lib.hid (H.out.below hb); clear hb)
    | (go_at_call 14; (with_reducible refine (close_any HA.out L1.out).mono ?_); rintro e w2 ⟨v2, rfl, hown⟩; have HC := Lib.hid hown.arg; replace HA := Lib.hid (HA.out.below hown.bel); replace HB := Lib.hid (bTr HB.out hown.bel); clear hown)
    | (go_at_call 14; (with_reducible refine (close_any HC.out L3.out).mono ?_); rintro e w3 ⟨v3, rfl, hown⟩; have HD := Lib.hid hown.arg; replace HC := Lib.hid (HC.out.below hown.bel); replace HA := Lib.hid (HA.out.below hown.bel); replace HB := Lib.hid (bTr HB.out hown.bel); clear hown)
    | (go_at_call 16; (with_reducible refine (open_close HCX.out HD.out L4.out).mono ?_); rintro e w4 ⟨v4, rfl, hown⟩; have HE := Lib.hid hown.arg; replace HC := Lib.hid (HC.out.below hown.bel); replace HA := Lib.hid (HA.out.below hown.bel); replace HB := Lib.hid (bTr HB.out hown.bel); clear hown)
    | (go_at_call 16; (with_reducible refine (open_close HX.out HC.out L2.out).mono ?_); rintro e w5 ⟨v5, rfl, hown⟩; have HF := Lib.hid hown.arg; replace HE := Lib.hid (HE.out.below hown.bel); replace HC := Lib.hid (HC.out.below hown.bel); replace HA := Lib.hid (HA.out.below hown.bel); replace HB := Lib.hid (bTr HB.out hown.bel); clear hown)
    | (go_at_call 16; (with_reducible refine (open_short p 3 c (by omega) _).mono ?_); rintro e w6 ⟨rfl, hb⟩; replace HF := Lib.hid (HF.out.below hb); replace HE := Lib.hid (HE.out.below hb); replace HC := Lib.hid (HC.out.below hb); replace HA := Lib.hid (HA.out.below hb); replace HB := Lib.hid (bTr HB.out hb); clear hb)
    | (go_at_call 16; (with_reducible refine (open_short p n c (by omega) _).mono ?_); rintro e w6 ⟨rfl, hb⟩; replace HF := Lib.hid (HF.out.below hb); replace HE := Lib.hid (HE.out.below hb); replace HC := Lib.hid (HC.out.below hb); replace HA := Lib.hid (HA.out.below hb); replace HB := Lib.hid (bTr HB.out hb); clear hb)
    | (go_at_call 13; (with_reducible refine (same_any HE.out HC.out true (decide_eq_true rfl)).mono ?_); rintro e w7 ⟨rfl, rfl⟩)
    | (go_at_call 13; (with_reducible refine (same_any HF.out HA.out true (decide_eq_true rfl)).mono ?_); rintro e w7 ⟨rfl, rfl⟩)
    | (go_at_call 11; (with_reducible refine (HS2.out _ _ HC.out).mono ?_); rintro e w8 ⟨rfl, hb⟩; replace HB := Lib.hid (bTr HB.out hb); clear hb))
  all_goals
    go_ret
    exact ⟨rfl, HB.out⟩

theorem BArg.cap {w : World} {p : Option Addr} {n c : Nat} {xs : List Nat} (h : BArg w (.slice p n c) xs) : n ≤ c ∧ xs.length = n := by
  rcases h.2 with ⟨rfl, p', c', e, _⟩ | ⟨h0, b, o, c', e, hc, hr⟩
  · injection e with e1 e2 e3
    subst e2
    exact ⟨Nat.zero_le _, rfl⟩
  · injection e with e1 e2 e3
    subst e2 e3
    exact ⟨hc, rfl⟩
theorem back_walk (v : Value) (xs : List Nat) (w : World) (h : BArg w v xs) :
    Calls Try.prog 8 #[v] w fun e w' => e = .returned (.bool true) ∧ Below w.heap.size w w' := by
  obtain ⟨p, c, rfl⟩ := h.slice
  rcases Nat.lt_or_ge 2000 xs.length with hn | hn
  · exact back_long p _ c hn w
  · exact back_mid p _ c xs w h rfl hn h.cap.1

end Go.Proofs.Ytglmkjnhkjljpab
