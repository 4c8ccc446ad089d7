/- FcsOpens: whatever bytes: what stands ahead of their check, if it fits. -/
import Derived.Test.YtglmkjnhkjljpabBacks
namespace Go.Proofs.Ytglmkjnhkjljpab
open Go.RowKit Go.Joins

theorem opens_long3 (p : Option Addr) (n c : Nat) (hn : 3000 < n) (w : World) :
    Calls Try.prog 4 #[.slice p n c] w fun e w' => e = .returned (.bool true) ∧ Below w.heap.size w w' := by
  have HH := head_ret
  go_enter Try.func4, Try.ntmps4
  go_wp2_with (go_at_call 9; (with_reducible refine (HH.go _).mono ?_); rintro e w1 ⟨rfl, hb⟩)
  go_ret
  exact ⟨rfl, hb⟩

theorem open_false {v : Value} {xs : List Nat} {w : World} (h : BArg w v xs) (hl : xs.length ≤ 140737488355000) (ho : Crc.opens xs = false) :
    Calls Try.prog 16 #[v] w fun e w' => e = .returned (.tuple #[.slice none 0 0, .bool false]) ∧ Below w.heap.size w w' := by
  refine (open_any h hl).mono fun e w' hh => ?_
  rcases hh with ⟨h1, _⟩ | ⟨_, hh⟩
  · rw [ho] at h1; cases h1
  · exact hh
theorem open_true {v : Value} {xs : List Nat} {w : World} {m : Nat} (h : BArg w v xs) (hl : xs.length ≤ 140737488355000) (ho : Crc.opens xs = true) (hm : xs.length = m + 4) :
    Calls Try.prog 16 #[v] w fun e w' => ∃ g c, e = .returned (.tuple #[.slice (some ⟨g, 0, none⟩) m c, .bool true]) ∧ m ≤ c ∧ OwnB w w' (.slice (some ⟨g, 0, none⟩) m c) (xs.take m) := by
  refine (open_any h hl).mono fun e w' hh => ?_
  rcases hh with ⟨_, v', e1, h1⟩ | ⟨h1, _⟩
  · rw [show xs.length - 4 = m by omega] at h1
    obtain ⟨g, c, rfl, hc, _, _⟩ := h1.form
    have hlen : (xs.take m).length = m := by rw [List.length_take]; omega
    rw [hlen] at h1 e1 hc
    exact ⟨g, c, e1, hc, h1⟩
  · rw [ho] at h1; cases h1
theorem ropens_ret {v : Value} {xs : List Nat} {w : World} (h : BArg w v xs) (hl : xs.length ≤ 140737488355000) (x : Bool) (ho : Crc.opens xs = x) :
    Calls Try.prog 17 #[v] w fun e w' => e = .returned (.bool x) ∧ Below w.heap.size w w' := by
  rw [← ho]; exact ropens_any h hl

set_option maxHeartbeats 2000000 in
theorem opens_false_walk (p : Option Addr) (n c : Nat) (xs : List Nat) (w : World) (h : BArg w (.slice p n c) xs) (hn : xs.length = n) (hl : n ≤ 3000) (ho : Crc.opens xs = false) :
    Calls Try.prog 4 #[.slice p n c] w fun e w' => e = .returned (.bool true) ∧ Below w.heap.size w w' := by
  have H := Lib.hid h
  have L1 := Lib.hid (show xs.length ≤ 140737488355000 by omega)
  have L2 := Lib.hid (show xs.length ≤ 140737488355328 by omega)
  have HF := Lib.hid ho
  have HH := head_ret
  clear h hn ho
  go_enter Try.func4, Try.ntmps4
  go_wp2_with (first
    | (go_at_call 9; (with_reducible refine (HH.go _).mono ?_); rintro e w1 ⟨rfl, hb⟩; have HB := Lib.hid hb; have HA := Lib.hid (H.out.below hb); clear hb)
    | (go_at_call 10; (with_reducible refine (copy_any HA.out L2.out).mono ?_); rintro e w2 ⟨v2, rfl, hown⟩; have HO := Lib.hid hown.arg; replace HA := Lib.hid (HA.out.below hown.bel); replace HB := Lib.hid (bTr HB.out hown.bel); clear hown)
    | (go_at_call 16; (with_reducible refine (open_false HO.out L1.out HF.out).mono ?_); rintro e w3 ⟨rfl, hb⟩; replace HA := Lib.hid (HA.out.below hb); replace HB := Lib.hid (bTr HB.out hb); clear hb)
    | (go_at_call 17; (with_reducible refine (ropens_ret HA.out L1.out false HF.out).mono ?_); rintro e w4 ⟨rfl, hb⟩; replace HB := Lib.hid (bTr HB.out hb); clear hb))
  go_ret
  exact ⟨rfl, HB.out⟩

theorem u8_xor (a b : Nat) (ha : a < 256) (hb : b < 256) : bits .xor .u8 (a : Int) (b : Int) = ((a ^^^ b : Nat) : Int) := by
  have h := Crc.xor_lt8 a b ha hb
  show IntKind.u8.wrap ((BitVec.ofInt 8 (a : Int) ^^^ BitVec.ofInt 8 (b : Int)).toNat : Nat) = _
  rw [BitVec.toNat_xor, BitVec.toNat_ofInt, BitVec.toNat_ofInt, show ((a : Int) % ((2 ^ 8 : Nat) : Int)).toNat = a by omega, show ((b : Int) % ((2 ^ 8 : Nat) : Int)).toNat = b by omega]
  unfold IntKind.wrap
  simp [IntKind.bits, IntKind.signed]
  omega

def TurnRel (w3 : World) (m : Nat) (v iv : Value) (wr : World) : Prop := ∃ (i : Nat) (os : List Nat), i ≤ m ∧ os.length = m ∧ iv = .int .i64 (i : Int) ∧ OwnB w3 wr v os

set_option maxHeartbeats 4000000 in
set_option maxRecDepth 20000 in
theorem opens_true_walk (b o m c : Nat) (xs : List Nat) (w : World) (h : BArg w (.slice (some ⟨b, o, none⟩) (m + 4) c) xs) (ha : ∀ w', BArg w' (.slice (some ⟨b, o, none⟩) (m + 4) c) xs → BArg w' (.slice (some ⟨b, o, none⟩) m c) (xs.take m)) (hn : xs.length = m + 4) (hl : m + 4 ≤ 3000) (hc : m + 4 ≤ c) (ho : Crc.opens xs = true) :
    Calls Try.prog 4 #[.slice (some ⟨b, o, none⟩) (m + 4) c] w fun e w' => e = .returned (.bool true) ∧ Below w.heap.size w w' := by
  have H := Lib.hid h
  have HP := Lib.hid ha
  have HN := Lib.hid hn
  have L1 := Lib.hid (show xs.length ≤ 140737488355000 by omega)
  have L2 := Lib.hid (show xs.length ≤ 140737488355328 by omega)
  have HF := Lib.hid ho
  have HH := head_ret
  clear h hn ho ha
  go_enter Try.func4, Try.ntmps4
  go_wp2_with (first
    | (go_at_call 9; (with_reducible refine (HH.go _).mono ?_); rintro e w1 ⟨rfl, hb⟩; have HB := Lib.hid hb; have HA := Lib.hid (H.out.below hb); clear hb)
    | (go_at_call 10; (with_reducible refine (copy_any HA.out L2.out).mono ?_); rintro e w2 ⟨v2, rfl, hown⟩; have HO := Lib.hid hown.arg; replace HA := Lib.hid (HA.out.below hown.bel); replace HB := Lib.hid (bTr HB.out hown.bel); clear hown)
    | (go_at_call 16; (with_reducible refine (open_true HO.out L1.out HF.out HN.out).mono ?_); rintro e w3 ⟨g, c3, rfl, hc3, hown⟩; have HX := Lib.hid hown; clear hown)
    | (go_at_call 17; (with_reducible refine (ropens_ret (HA.out.below HX.out.bel) L1.out true HF.out).mono ?_); rintro e w4 ⟨rfl, hb⟩; replace HX := Lib.hid (HX.out.below hb); clear hb)
    | (go_at_call 13; (with_reducible refine (same_any HX.out.arg (HP.out _ (HA.out.below HX.out.bel)) true (decide_eq_true rfl)).mono ?_); rintro e w5 ⟨rfl, rfl⟩))
  go_loopw [43] (fun iv wr => TurnRel w2 m (.slice (some ⟨g, 0, none⟩) m c3) iv wr) (fun iv _ => m - (intOf iv).toNat)
  case atStart => exact ⟨0, xs.take m, by omega, by rw [List.length_take, HN.out]; omega, rfl, HX.out⟩
  case round =>
    clear HX
    obtain ⟨i, os, hi, hos, rfl, hown⟩ := hrel
    have HX := Lib.hid hown
    have HOS := Lib.hid hos
    clear hown hos
    rcases Nat.lt_or_ge i m with gi | gi
    · have hd : decide ((i : Int) < (m : Int)) = true := decide_eq_true (by omega)
      have hcell := HX.out.cell (k := i) (by rw [HOS.out]; exact gi)
      have hfr := HX.out.frozen i
      have hx := Crc.getD_byte HX.out.2.2.1 i
      obtain ⟨x, hxe⟩ : ∃ x, x = os.getD i 0 := ⟨_, rfl⟩
      rw [← hxe] at hcell hx
      have hxo := u8_xor x 255 hx (by omega)
      have hlt := Crc.xor_lt8 x 255 hx (by omega)
      clear hxe
      obtain ⟨y, hy⟩ : ∃ y, y = x ^^^ 255 := ⟨_, rfl⟩
      rw [← hy] at hxo hlt
      clear hy
      change bits BinOp.xor IntKind.u8 (x : Int) 255 = _ at hxo
      go_wp2_with fail
      go_roundw
      case rel => exact ⟨i + 1, os.set i y, by omega, by rw [List.length_set, HOS.out], by go_num, HX.out.set hlt⟩
      case measure => simp [intOf]; omega
    · obtain rfl : i = m := by omega
      go_wp2_with (go_at_call 13; (with_reducible refine (same_any (HO.out.below HX.out.bel) (HA.out.below HX.out.bel) true (decide_eq_true rfl)).mono ?_); rintro e w5 ⟨rfl, rfl⟩)
      go_ret
      exact ⟨rfl, bTr HB.out HX.out.bel⟩

theorem opens_walk (v : Value) (xs : List Nat) (w : World) (h : BArg w v xs) :
    Calls Try.prog 4 #[v] w fun e w' => e = .returned (.bool true) ∧ Below w.heap.size w w' := by
  rcases Nat.lt_or_ge 3000 xs.length with hn | hn
  · obtain ⟨p, c, rfl⟩ := h.slice
    exact opens_long3 p _ c hn w
  cases ho : Crc.opens xs
  · obtain ⟨p, c, rfl⟩ := h.slice
    exact opens_false_walk p _ c xs w h rfl hn ho
  · have h4 : 4 ≤ xs.length := by
      rcases Nat.lt_or_ge xs.length 4 with g | g
      · rw [opens_short g] at ho; cases ho
      · exact g
    have h' := h
    rcases h'.2 with ⟨rfl, _⟩ | ⟨h0, b, o, c, rfl, hc, hr⟩
    · simp at h4
    have e4 : xs.length - 4 + 4 = xs.length := by omega
    have := opens_true_walk b o (xs.length - 4) c xs w (by rw [e4]; exact h) (fun w' hb => by
      rw [e4] at hb
      obtain ⟨g1, g2⟩ := hb
      have hp : (xs.take (xs.length - 4)).length = xs.length - 4 := by rw [List.length_take]; omega
      refine ⟨Crc.bytes_take g1 _, ?_⟩
      rcases Nat.eq_zero_or_pos (xs.length - 4) with g0 | g0
      · exact .inl ⟨by rw [g0]; rfl, _, c, by rw [g0], fun e => by cases e⟩
      · rcases g2 with ⟨e, _⟩ | ⟨_, b2, o2, c2, e, _, hr2⟩
        · rw [e] at h4; simp at h4
        · injection e with e1 e2 e3
          injection e1 with e1
          injection e1 with e5 e6
          subst e5 e6 e3
          exact .inr ⟨by omega, b, o, c, by rw [hp], by omega, hr2.take _⟩) e4.symm (by omega) (by omega) ho
    rw [e4] at this
    exact this

end Go.Proofs.Ytglmkjnhkjljpab
