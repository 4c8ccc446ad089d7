/- EtherForm: whatever bytes with a check that fits are a frame's, that are just its own, or refused. -/
import Derived.Test.YtbpkjljienadiaaEHead
import Derived.Test.YtbpkjljienadiaaClose
namespace Go.Proofs.Ytbpkjljienadiaa
open Go.RowKit Go.Joins

theorem form_long (p : Option Addr) (n c : Nat) (hn : 1590 < n) (w : World) :
    Calls Try.prog 5 #[.slice p n c] w fun e w' => e = .returned (.bool true) ∧ Below w.heap.size w w' := by
  have HH := head_ret
  go_enter Try.func5, Try.ntmps5
  go_wp2_with (go_at_call 9; (with_reducible refine (HH.go _).mono ?_); rintro e w1 ⟨rfl, hb⟩)
  go_ret
  exact ⟨rfl, hb⟩

theorem zero18 (w : World) : (w.alloc (.cells ZC 26)).cell? ⟨w.heap.size, 18, none⟩ = some (.int .i64 0) := cell_of_row _ _ 18 _ _ _ (heap_alloc_new w _)
theorem zero19 (w : World) : (w.alloc (.cells ZC 26)).cell? ⟨w.heap.size, 19, none⟩ = some (.slice none 0 0) := cell_of_row _ _ 19 _ _ _ (heap_alloc_new w _)

set_option maxHeartbeats 1000000 in
theorem form_bad (p : Option Addr) (n c : Nat) (hn : n ≤ 1590) (w : World) (L x : Nat) (hx : x = 20 ∧ L < 64 ∨ x = 21)
    (HC : Hid (∀ wx, Below w.heap.size w wx → Calls Try.prog 20 #[.slice p n c] wx fun e w1 => ∃ q d, e = .returned (.slice q L d) ∧ Below wx.heap.size wx w1 ∧
      (∀ w2, Below w1.heap.size w1 w2 → Calls Try.prog 16 #[.slice q L d] w2 fun e w3 => e = .returned (.tuple #[.agg ZC, .int .i64 (x : Int)]) ∧ Below w2.heap.size w2 w3))) :
    Calls Try.prog 5 #[.slice p n c] w fun e w' => e = .returned (.bool true) ∧ Below w.heap.size w w' := by
  have HH := head_ret
  have hx' : x = 20 ∨ x = 21 := by omega
  have hL : x = 20 → L < 64 := by omega
  have HLt := Lib.hid hL
  clear hL hx
  rcases hx' with rfl | rfl <;>
  · go_enter Try.func5, Try.ntmps5
    go_wp2_with (first
      | (with_reducible refine at_storeF ?_; refine wpList_storeN rfl _ _ rfl ZC _ rfl rfl ZC_one rfl rfl ?_; have c18 := zero18 w3; have c19 := zero19 w3)
      | (go_at_call 9; (with_reducible refine (HH.go _).mono ?_); rintro e w1 ⟨rfl, hb⟩; have HB := Lib.hid hb; clear hb)
      | (go_at_call 20; (with_reducible refine (HC.out _ HB.out).mono ?_); rintro e w2 ⟨q1, d1, rfl, hb, hd⟩; replace HB := Lib.hid (bTr HB.out hb); have HD := Lib.hid hd; clear hb hd)
      | (go_at_call 16; (with_reducible refine (HD.out _ (bRef _)).mono ?_); rintro e w3 ⟨rfl, hb⟩; replace HB := Lib.hid (bTr HB.out hb); clear hb))
    go_ret
    first
      | exact ⟨rfl, bAl HB.out _⟩
      | (refine ⟨?_, bAl HB.out _⟩; show Ending.returned (.bool (decide ((L : Int) < 64))) = _; rw [decide_eq_true (by have := HLt.out (by trivial); omega)])

set_option maxHeartbeats 1000000 in
theorem form_good (p : Option Addr) (n c : Nat) (hn : n ≤ 1590) (w : World) (f : Fr) (L : Nat)
    (HC : Hid (∀ wx, Below w.heap.size w wx → Calls Try.prog 20 #[.slice p n c] wx fun e w1 => ∃ q d, e = .returned (.slice q L d) ∧ Below wx.heap.size wx w1 ∧
      (∀ w2, Below w1.heap.size w1 w2 → Calls Try.prog 16 #[.slice q L d] w2 fun e w3 => ∃ q2 k2 d2, e = .returned (.tuple #[.agg (FC f (.slice q2 k2 d2)), .int .i64 0]) ∧ Below w2.heap.size w2 w3 ∧
        Ret 15 #[.agg (FC f (.slice q2 k2 d2))] (.int .i64 0) ∧
        (∀ w4, Below w3.heap.size w3 w4 → Calls Try.prog 11 #[.agg (FC f (.slice q2 k2 d2))] w4 fun e w5 => ∃ v5, e = .returned (.tuple #[v5, .int .i64 0]) ∧ Below w4.heap.size w4 w5 ∧
          Calls Try.prog 14 #[.slice q L d, v5] w5 fun e w6 => e = .returned (.bool true) ∧ w5 = w6)))) :
    Calls Try.prog 5 #[.slice p n c] w fun e w' => e = .returned (.bool true) ∧ Below w.heap.size w w' := by
  have HH := head_ret
  go_enter Try.func5, Try.ntmps5
  go_wp2_with (first
    | (with_reducible refine at_storeF ?_; refine wpList_storeN rfl _ _ rfl (FC f (.slice q2 k2 d2)) _ rfl rfl (FC_one f q2 k2 d2) rfl rfl ?_)
    | (with_reducible refine at_loadF ?_; refine wpList_loadF rfl _ rfl w3.heap.size rfl _ _ (heap_alloc_new w3 _) rfl ?_)
    | (with_reducible refine at_loadG ?_; refine wpList_loadG rfl _ rfl w3.heap.size rfl _ _ HF.out rfl ?_)
    | (go_at_call 9; (with_reducible refine (HH.go _).mono ?_); rintro e w1 ⟨rfl, hb⟩; have HB := Lib.hid hb; clear hb)
    | (go_at_call 20; (with_reducible refine (HC.out _ HB.out).mono ?_); rintro e w2 ⟨q1, d1, rfl, hb, hd⟩; replace HB := Lib.hid (bTr HB.out hb); have HD := Lib.hid hd; clear hb hd)
    | (go_at_call 16; (with_reducible refine (HD.out _ (bRef _)).mono ?_); rintro e w3 ⟨q2, k2, d2, rfl, hb, hk, he⟩; replace HB := Lib.hid (bTr HB.out hb); have HK := Lib.hid hk; have HE := Lib.hid he; clear hb hk he)
    | (go_at_call 11; (with_reducible refine (HE.out _ (bAl (bRef w3) _)).mono ?_); rintro e w4 ⟨v5, rfl, hb, hs⟩; have HF := Lib.hid (keepZ hb); replace HB := Lib.hid (bTr (bAl HB.out _) hb); have HS := Lib.hid hs; clear hb hs)
    | (go_at_call 14; (with_reducible refine HS.out.mono ?_); rintro e w5 ⟨rfl, rfl⟩)
    | (go_at_call 15; (with_reducible refine (HK.out.go _).mono ?_); rintro e w6 ⟨rfl, hb⟩; replace HB := Lib.hid (bTr HB.out hb); clear hb))
  go_ret
  exact ⟨rfl, HB.out⟩

theorem good_of {b : List Nat} (h : Fr.dchk b = 0) : (Fr.parse (Fr.body b)).chk = 0 ∧ (Fr.parse (Fr.body b)).text = Fr.body b ∧ Crc.opens b = true ∧ 64 ≤ b.length ∧ b.length ≤ 1600 := by
  unfold Fr.dchk at h
  split at h
  · omega
  split at h
  · omega
  split at h
  · omega
  split at h
  · omega
  rename_i h1 h2 h3 h4
  have hg : Fr.good b = true := by simpa using h4
  unfold Fr.good at hg
  rw [Bool.and_eq_true, decide_eq_true_eq, decide_eq_true_eq] at hg
  exact ⟨hg.1, hg.2, by simpa using h3, by omega, by omega⟩
theorem close_body {b : List Nat} (hb : Crc.Bytes b) (h : Crc.opens b = true) : Crc.close (Fr.body b) = b := by
  have := Crc.opens_iff b hb
  rw [h] at this
  have h2 := (Bool.and_eq_true _ _).mp this.symm
  exact of_decide_eq_true h2.2

theorem form_walk (v : Value) (xs : List Nat) (w : World) (h : BArg w v xs) :
    Calls Try.prog 5 #[v] w fun e w' => e = .returned (.bool true) ∧ Below w.heap.size w w' := by
  obtain ⟨p, c, rfl⟩ := h.slice
  rcases Nat.lt_or_ge 1590 xs.length with hn | hn
  · exact form_long p _ c hn w
  have hcb := Crc.close_bytes xs h.1
  have hcl : (Crc.close xs).length = xs.length + 4 := Crc.close_len xs
  have hop := Crc.opens_close xs h.1
  have HC : ∀ wx, Below w.heap.size w wx → Calls Try.prog 20 #[.slice p xs.length c] wx (OwnPost wx (Crc.close xs)) := fun wx hb => rclose_any (h.below hb) (by omega)
  by_cases h0 : Fr.dchk (Crc.close xs) = 0
  · obtain ⟨g1, g2, g3, g4, g5⟩ := good_of h0
    refine form_good p _ c hn w (Fr.parse (Fr.body (Crc.close xs))) (Crc.close xs).length (Lib.hid fun wx hb => (HC wx hb).mono fun e w1 hh => ?_)
    obtain ⟨v1, rfl, hown⟩ := hh
    obtain ⟨g, d, rfl, _⟩ := hown.form
    refine ⟨_, d, rfl, hown.bel, fun w2 hb2 => ?_⟩
    have ha := hown.arg.below hb2
    refine (decode_any ha).mono fun e w3 hh => ?_
    obtain ⟨hb3, hh⟩ := hh
    rcases hh with ⟨_, v2, rfl, hda⟩ | ⟨h1, _⟩
    · obtain ⟨g', hg', hsub, _⟩ := hda
      have ha2 := hsub.arg
      obtain ⟨q2, d2, rfl⟩ := ha2.slice
      have hdl : (Fr.parse (Fr.body (Crc.close xs))).data.length ≤ 1600 := by
        have h1 := (Fr.chk_zero.1 g1).2.2.2
        unfold Fr.size at h1; omega
      have hk := check_ret (Fr.parse (Fr.body (Crc.close xs))) q2 _ d2 rfl (by omega)
      rw [g1] at hk
      refine ⟨q2, _, d2, rfl, hb3, hk, fun w4 hb4 => ?_⟩
      have he := encode_any (Fr.parse (Fr.body (Crc.close xs))) _ w4 (Fr.parse_wf (body_bytes hcb)) (by omega) (ha2.below hb4)
      refine Calls.mono he fun e w5 hh => ?_
      rcases hh with ⟨_, v5, rfl, hown5⟩ | ⟨h1, _⟩
      · refine ⟨v5, rfl, hown5.bel, same_any (((ha.below hb3).below hb4).below hown5.bel) hown5.arg true ?_⟩
        rw [g2, close_body hcb g3]
        exact decide_eq_true rfl
      · exact absurd g1 h1
    · exact absurd h0 h1
  · have hx : Fr.dchk (Crc.close xs) = 20 ∧ (Crc.close xs).length < 64 ∨ Fr.dchk (Crc.close xs) = 21 := by
      unfold Fr.dchk at h0 ⊢
      rw [hop] at h0 ⊢
      split
      · exact .inl ⟨rfl, by assumption⟩
      · rename_i h1
        rw [if_neg h1] at h0
        rw [if_neg (by omega), if_neg (by decide)] at h0 ⊢
        split
        · exact .inr rfl
        · rename_i h2; rw [if_neg h2] at h0; exact absurd rfl h0
    refine form_bad p _ c hn w (Crc.close xs).length (Fr.dchk (Crc.close xs)) hx (Lib.hid fun wx hb => (HC wx hb).mono fun e w1 hh => ?_)
    obtain ⟨v1, rfl, hown⟩ := hh
    obtain ⟨g, d, rfl, _⟩ := hown.form
    refine ⟨_, d, rfl, hown.bel, fun w2 hb2 => (decode_any (hown.arg.below hb2)).mono fun e w3 hh => ?_⟩
    obtain ⟨hb3, hh⟩ := hh
    rcases hh with ⟨h1, _⟩ | ⟨_, e1⟩
    · exact absurd h1 h0
    · exact ⟨e1, hb3⟩

end Go.Proofs.Ytbpkjljienadiaa
