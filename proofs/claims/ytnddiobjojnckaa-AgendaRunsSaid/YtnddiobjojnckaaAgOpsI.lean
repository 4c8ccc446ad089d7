/- Package agenda at int: container/heap's Push and Remove; the queue's put and takeFrom. -/
import Derived.Test.YtnddiobjojnckaaAgDownI
namespace Go.Proofs.Ytnddiobjojnckaa
open Go.RowKit Go.Joins
namespace AgI

theorem Same.of {B : Nat} {w0 w w1 : World} {g : Nat} {now last : Int} {l l1 : List Ent} {n : Nat} (h : Same B w w1 g now last l l1 n) (hb : Below B w0 w) (hk : KeptT [51, 49] w0 w) : Ag B w1 g now last l1 ∧ l1.Perm l ∧ Below B w0 w1 ∧ KeptT [51, 49] w0 w1 :=
  ⟨h.1, h.2.1, hb.trans h.2.2.2.1, hk.trans h.2.2.2.2⟩
def PutPost (B : Nat) (w0 : World) (g : Nat) (now last : Int) (l : List Ent) (x : Ent) (e : Ending) (w' : World) : Prop :=
  e = .returned (.tuple #[]) ∧ ∃ l', Ag B w' g now last l' ∧ Hp l' l'.length ∧ l'.Perm (l ++ [x]) ∧ Below B w0 w' ∧ KeptT [51, 49] w0 w'

set_option maxHeartbeats 1000000 in
theorem hpush_any {B g : Nat} {now last : Int} {l : List Ent} {x : Ent} {w : World} (h : Ag B w g now last l) (hh : Hp l l.length) (hx : EOk B w x) (hl : l.length < 100000) :
    Calls Try.prog 22 #[.iface 66 (.pointer (some ⟨g, 2, none⟩)), .iface 51 (.pointer (some ⟨x.blk, 0, none⟩))] w (PutPost B w g now last l x) := by
  have H := Lib.hid (push_any h hx (by omega))
  have HH := Lib.hid hh
  have v1 := viaPush ⟨g, 2, none⟩ w
  obtain ⟨n, hn⟩ : ∃ n, l.length = n := ⟨_, rfl⟩
  have HN := Lib.hid hn
  rw [hn] at hl
  have HLN : Hid ((l ++ [x]).length = n + 1) := Lib.hid (by simp [hn])
  have ew : wrap64 ((n : Int) + 1 - 1) = (n : Int) := by unfold wrap64; omega
  have ew2 : wrap64 (n : Int) = (n : Int) := by unfold wrap64; omega
  clear h hx hh hn
  go_enter Try.func22, Try.ntmps22
  go_wp2_with (first
    | (go_at_call 52; (with_reducible refine H.out.mono ?_); rintro e w1 ⟨rfl, hA, hb, hk⟩; have HA := Lib.hid hA; have HB := Lib.hid hb; have HK := Lib.hid hk; obtain ⟨q1, hc1, hq1⟩ := hA.q; have v2 := (via hc1).1; have HQ1 := Lib.hid hq1; have HL := Lib.hid (len_any hq1); rw [HLN.out] at HL; clear hA hb hk hq1 v1)
    | (go_at_call 45; (with_reducible refine HL.out.mono ?_); rintro e w2 ⟨rfl, hb⟩; have HA2 := Lib.hid (HA.out.below hb); have HB2 := Lib.hid (HB.out.trans (hb.mono HA.out.lt)); have HK2 := Lib.hid (HK.out.trans (KeptT.of_below hb)); have HU := Lib.hid (up_any HA2.out (n := n + 1) (j := n) (by rw [HLN.out]; omega) (by rw [HLN.out]; omega) (by omega) (by have h := push_start x HH.out; rw [HN.out] at h; exact h)); clear hb hc1 v2)
    | (go_at_call 24; (with_reducible refine HU.out.mono ?_); rintro e w3 ⟨rfl, l', hp, hS⟩; have HP := Lib.hid hp; have HS := Lib.hid hS; clear hp hS))
  refine bodyPost_end (results_none rfl _ _ _) rfl ?_
  obtain ⟨k1, k2, k3, k4⟩ := HS.out.of HB2.out HK2.out
  exact ⟨rfl, l', k1, by rw [k2.length_eq, HLN.out]; exact HP.out, k2, k3, k4⟩

theorem put_any {B g : Nat} {now last : Int} {l : List Ent} {x : Ent} {w : World} (h : Ag B w g now last l) (hh : Hp l l.length) (hx : EOk B w x) (hl : l.length < 100000) :
    Calls Try.prog 15 #[.pointer (some ⟨g, 2, none⟩), .pointer (some ⟨x.blk, 0, none⟩)] w (PutPost B w g now last l x) := by
  have H := Lib.hid (hpush_any h hh hx hl)
  clear h hh hx hl
  go_enter Try.func15, Try.ntmps15
  go_wp2_with (go_at_call 22; (with_reducible refine H.out.mono ?_); rintro e w1 ⟨rfl, hr⟩; have HR := Lib.hid hr; clear hr)
  refine bodyPost_end (results_none rfl _ _ _) rfl ?_
  exact ⟨rfl, HR.out⟩

def TakePost (B : Nat) (w0 : World) (g : Nat) (now last : Int) (l : List Ent) (i : Nat) (v : Value → Value) (e : Ending) (w' : World) : Prop :=
  e = .returned (v (.pointer (some ⟨(el l i).blk, 0, none⟩))) ∧ ∃ l', Ag B w' g now last l' ∧ Hp l' l'.length ∧ (el l i :: l').Perm l ∧ EOk B w' (el l i) ∧ Below B w0 w' ∧ KeptT [51, 49] w0 w'
theorem take_end {B g n i : Nat} {now last : Int} {l l2 : List Ent} {w w2 w3 : World} (hA : Ag B w3 g now last (l2.take n)) (hE : EOk B w3 (el l2 n)) (hl : l2.length = n + 1) (hp : l2.Perm l) (he : el l2 n = el l i) (hh : Hp l2 n) (hb : Below B w w2) (hk : KeptT [51, 49] w w2) (hb3 : Below B w2 w3) (hk3 : KeptT [51, 49] w2 w3) :
    ∃ l', Ag B w3 g now last l' ∧ Hp l' l'.length ∧ (el l i :: l').Perm l ∧ EOk B w3 (el l i) ∧ Below B w w3 ∧ KeptT [51, 49] w w3 := by
  refine ⟨l2.take n, hA, ?_, ?_, by rw [← he]; exact hE, hb.trans hb3, hk.trans hk3⟩
  · rw [show (l2.take n).length = n by simp; omega]; exact hh.take
  · rw [← he]; exact (last_perm hl).trans hp

set_option maxHeartbeats 2000000 in
theorem hremove_last {B g n : Nat} {now last : Int} {l : List Ent} {w : World} (h : Ag B w g now last l) (hh : Hp l l.length) (hl : l.length = n + 1) (hn : n < 100000) :
    Calls Try.prog 23 #[.iface 66 (.pointer (some ⟨g, 2, none⟩)), .int .i64 (n : Int)] w (TakePost B w g now last l n (.iface 51)) := by
  obtain ⟨q, hc, hq⟩ := h.q
  have v1 := (via hc).1
  have HL := Lib.hid (len_any hq)
  rw [hl] at HL
  have H := Lib.hid h
  have HH := Lib.hid hh
  have HLL := Lib.hid hl
  have ew2 : wrap64 (n : Int) = (n : Int) := by unfold wrap64; omega
  clear h hh hl hq
  go_enter Try.func23, Try.ntmps23
  go_wp2_with (first
    | (go_at_call 45; (with_reducible refine HL.out.mono ?_); rintro e w1 ⟨rfl, hb⟩; have HA := Lib.hid (H.out.below hb); have HB := Lib.hid (hb.mono H.out.lt); have HK := Lib.hid (KeptT.of_below (ts := [51, 49]) hb); have v2 := viaPop ⟨g, 2, none⟩ w1; have HPP := Lib.hid (pop_any HA.out HLL.out); clear hb hc v1)
    | (go_at_call 51; (with_reducible refine HPP.out.mono ?_); rintro e w3 ⟨rfl, hA, hE, hb, hk⟩; have HR := Lib.hid (take_end (i := n) hA hE HLL.out (.refl _) rfl (HH.out.mono (by rw [HLL.out]; omega)) HB.out HK.out hb hk); clear hA hE hb hk v2))
  go_ret
  exact ⟨rfl, HR.out⟩

set_option maxHeartbeats 4000000 in
theorem hremove_any {B g n i : Nat} {now last : Int} {l : List Ent} {w : World} (h : Ag B w g now last l) (hh : Hp l l.length) (hl : l.length = n + 1) (hn : n < 100000) (hi : i < n) :
    Calls Try.prog 23 #[.iface 66 (.pointer (some ⟨g, 2, none⟩)), .int .i64 (i : Int)] w (TakePost B w g now last l i (.iface 51)) := by
  obtain ⟨q, hc, hq⟩ := h.q
  have v1 := (via hc).1
  have HL := Lib.hid (len_any hq)
  rw [hl] at HL
  have H := Lib.hid h
  have hs0 : Same B w w g now last l l (n + 1) := ⟨h, .refl _, fun _ _ => rfl, Below.refl _ _, KeptT.refl _ _⟩
  have HS0 := Lib.hid hs0
  have HH := Lib.hid hh
  have HLL := Lib.hid hl
  have ew2 : wrap64 (n : Int) = (n : Int) := by unfold wrap64; omega
  have d1 : ((n : Int) != (i : Int)) = true := by rw [bne_iff_ne]; omega
  have HE : Hid (el (swp l i n) n = el l i) := Lib.hid (by rw [el_swp (by omega) (by omega), if_pos rfl])
  clear h hh hl hq hs0
  have A1 : True := trivial
  go_enter Try.func23, Try.ntmps23
  go_wp2_with (first
    | (go_at_call 45; (with_reducible refine HL.out.mono ?_); rintro e w1 ⟨rfl, hb⟩; have HS1 := Lib.hid (HS0.out.call hb); obtain ⟨q1, hc1, hq1⟩ := HS1.out.1.q; have v2 := (via hc1).2.2; have HC1 := Lib.hid hc1; have HSW := Lib.hid (swap_any hq1 (i := i) (j := n) (by rw [HLL.out]; omega) (by rw [HLL.out]; omega) (by omega)); clear hb hc hc1 hq1 v1)
    | (go_at_call 47; (with_reducible refine HSW.out.mono ?_); rintro e w2 ⟨rfl, hq2, hb2, hk2⟩; have HS2 := Lib.hid (HS1.out.swap HC1.out hq2 hb2 hk2 (by omega) (by omega) (by rw [HLL.out]; omega)); have HDN := Lib.hid (down_any HS2.out.1 (n := n) (i0 := i) (by rw [swp_len, HLL.out]; omega) (by rw [swp_len, HLL.out]; omega) (by omega) (dn_start HLL.out (by omega) (by have h := HH.out; rw [HLL.out] at h; exact h))); clear hq2 hb2 hk2 v2))
  refine HDN.out.mono ?_
  rintro e w3 ⟨b, l3, rfl, hb1, hb2, hl3, hS3⟩
  have HS3 := Lib.hid hS3
  have HE3 : Hid (el l3 n = el l i) := Lib.hid ((hS3.2.2.1 n (Nat.le_refl _)).trans HE.out)
  have HL3 : Hid (l3.length = n + 1) := Lib.hid (by rw [hl3, swp_len, HLL.out])
  have HP3 : Hid (l3.Perm l) := Lib.hid (hS3.2.1.trans HS2.out.2.1)
  have HB3 : Hid (Below B w w3) := Lib.hid (HS2.out.2.2.2.1.trans hS3.2.2.2.1)
  have HK3 : Hid (KeptT [51, 49] w w3) := Lib.hid (HS2.out.2.2.2.2.trans hS3.2.2.2.2)
  have H1 := Lib.hid hb1
  have H2 := Lib.hid hb2
  clear hb1 hb2 hl3 hS3
  cases b
  · have HU := Lib.hid (up_any HS3.out.1 (n := n) (j := i) (by rw [HL3.out]; omega) (by rw [HL3.out]; omega) (by omega) (H2.out rfl))
    go_wp2_with (first
      | (go_at_call 24; (with_reducible refine HU.out.mono ?_); rintro e w4 ⟨rfl, l4, hp, hS⟩; have HP := Lib.hid hp; have HS := Lib.hid hS; have v3 := viaPop ⟨g, 2, none⟩ w4; have HPP := Lib.hid (pop_any HS.out.1 (n := n) (by rw [HS.out.2.1.length_eq, HL3.out])); clear hp hS)
      | (go_at_call 51; (with_reducible refine HPP.out.mono ?_); rintro e w5 ⟨rfl, hA, hE, hb, hk⟩; have HR := Lib.hid (take_end (l := l) (i := i) hA hE (by rw [HS.out.2.1.length_eq, HL3.out]) (HS.out.2.1.trans HP3.out) ((HS.out.2.2.1 n (Nat.le_refl _)).trans HE3.out) HP.out (HB3.out.trans HS.out.2.2.2.1) (HK3.out.trans HS.out.2.2.2.2) hb hk); have HEE := Lib.hid ((HS.out.2.2.1 n (Nat.le_refl _)).trans HE3.out); clear hA hE hb hk v3))
    go_ret
    exact ⟨by rw [← HEE.out]; rfl, HR.out⟩
  · have v3 := viaPop ⟨g, 2, none⟩ w3
    have HPP := Lib.hid (pop_any HS3.out.1 (n := n) HL3.out)
    have HPL := Lib.hid (H1.out rfl)
    clear H1 H2
    go_wp2_with (first
      | (go_at_call 51; (with_reducible refine HPP.out.mono ?_); rintro e w5 ⟨rfl, hA, hE, hb, hk⟩; have HR := Lib.hid (take_end (l := l) (i := i) hA hE HL3.out HP3.out HE3.out HPL.out HB3.out HK3.out hb hk); clear hA hE hb hk v3))
    go_ret
    exact ⟨by rw [← HE3.out]; rfl, HR.out⟩

theorem takeFrom_any {B g i : Nat} {now last : Int} {l : List Ent} {w : World} (h : Ag B w g now last l) (hh : Hp l l.length) (hl : l.length ≤ 100000) (hi : i < l.length) :
    Calls Try.prog 18 #[.pointer (some ⟨g, 2, none⟩), .int .i64 (i : Int)] w (TakePost B w g now last l i id) := by
  obtain ⟨n, hn⟩ : ∃ n, l.length = n + 1 := ⟨l.length - 1, by omega⟩
  have key : Calls Try.prog 23 #[.iface 66 (.pointer (some ⟨g, 2, none⟩)), .int .i64 (i : Int)] w (TakePost B w g now last l i (.iface 51)) := by
    rcases Nat.lt_or_ge i n with g1 | g1
    · exact hremove_any h hh hn (by omega) g1
    · obtain rfl : i = n := by omega
      exact hremove_last h hh hn (by omega)
  have H := Lib.hid key
  clear h hh hl hi hn key
  have ta := assert_ptr (.pointer (some ⟨(el l i).blk, 0, none⟩))
  go_enter Try.func18, Try.ntmps18
  go_wp2_with (go_at_call 23; (with_reducible refine H.out.mono ?_); rintro e w1 ⟨rfl, hr⟩; have HR := Lib.hid hr; clear hr)
  go_ret
  exact ⟨rfl, HR.out⟩

end AgI
end Go.Proofs.Ytnddiobjojnckaa
