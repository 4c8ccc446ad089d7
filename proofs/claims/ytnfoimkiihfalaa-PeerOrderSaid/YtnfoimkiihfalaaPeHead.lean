/- The law's head: the document's example; Down. -/
import Derived.Test.YtnfoimkiihfalaaPeTalk
import Derived.Test.YtnfoimkiihfalaaPeEndA
import Derived.Test.YtnfoimkiihfalaaPeEndD
import Derived.Test.YtnfoimkiihfalaaPeMath
namespace Go.Proofs.Ytnfoimkiihfalaa
open Go.RowKit Go.Joins

/-- The peer of the law's own setup. -/
def PS0 (lost : Int) : PS := PS.new 5 1 1099511627776 1048576 4 lost
/-- What does not turn. -/
structure Same (s s' : PS) : Prop where
  id : s'.id = s.id
  port : s'.port = s.port
  most : s'.most = s.most
  slack : s'.slack = s.slack
  win : s'.win = s.win
  lost : s'.lost = s.lost
theorem Same.rfl' (s : PS) : Same s s := ⟨rfl, rfl, rfl, rfl, rfl, rfl⟩
theorem Same.trans {a b c : PS} (h : Same a b) (k : Same b c) : Same a c := ⟨k.id.trans h.id, k.port.trans h.port, k.most.trans h.most, k.slack.trans h.slack, k.win.trans h.win, k.lost.trans h.lost⟩
theorem fail_Same (s : PS) : Same s s.fail := by
  obtain ⟨_, a, b, c, d, e, f⟩ := fail_same s
  exact ⟨a, b, c, d, e, f⟩
theorem ask_Same (s : PS) : Same s s.ask := by
  unfold PS.ask
  by_cases h : s.stage = 0
  · rw [if_pos h]; exact ⟨rfl, rfl, rfl, rfl, rfl, rfl⟩
  · rw [if_neg h]
    obtain ⟨a, b, c, d, e, f⟩ := fail_Same s
    exact ⟨a, b, c, d, e, f⟩
/-- A peer of the law's own setup. -/
structure Own5 (s : PS) (lost : Int) : Prop where
  id : s.id = 5
  port : s.port = 1
  most : s.most = 1099511627776
  slack : s.slack = 1048576
  win : s.win = 4
  lost : s.lost = lost
theorem own5_new (lost : Int) : Own5 (PS0 lost) lost := ⟨rfl, rfl, rfl, rfl, rfl, rfl⟩
theorem Own5.same {s s' : PS} {l : Int} (h : Own5 s l) (k : Same s s') : Own5 s' l := ⟨k.id.trans h.id, k.port.trans h.port, k.most.trans h.most, k.slack.trans h.slack, k.win.trans h.win, k.lost.trans h.lost⟩
/-- What a talk leaves, where it is the first one. -/
def after1 (s : PS) (x0 x1 x2 x3 : Int) : PS := { talked s x0 x1 x3 with ms := [(x2, x3)], failed := 0, stage := 0 }
/-- What a talk leaves, where there are marks. -/
def afterN (s : PS) (x0 x1 x2 x3 : Int) (K : List (Int × Int)) (R D : Int) : PS := { talked s x0 x1 x3 with ms := K ++ [(x2, x3)], rate := R, delay := D, failed := 0, stage := 0 }
theorem talk_first {w : World} {b : Nat} {s : PS} {l : Int} (h : Pr w b s) (ho : Own5 s l) (x0 x1 x2 x3 : Int) (hm : s.ask.ms = []) (q0 : 0 ≤ s.seq) (q1 : s.seq ≤ 65535) (f0 : 0 ≤ s.failed) (f1 : s.failed ≤ 4611686018427387904) (hx1 : In64 x1) (hx2 : In64 x2) :
    Calls Try.prog 24 #[.pointer (some ⟨b, 0, none⟩), .agg #[.int .i64 x0, .int .i64 x1, .int .i64 x2, .int .i64 x3]] w fun e w' => e = .returned (.int .i64 0) ∧ Leave b w (after1 s x0 x1 x2 x3) w' := by
  have hs := ho.same (ask_Same s)
  refine talk_any h x0 x1 x2 x3 q0 q1 f0 f1 (by rw [ho.id]; decide) (by rw [ho.id]; decide) (by rw [ho.port]; decide) (by rw [ho.port]; decide) hx1 hx2 fun W hW => ?_
  exact end_first hW x2 hm (by show 1 ≤ s.ask.win; rw [hs.win]; decide) (by show s.ask.win ≤ 32; rw [hs.win]; decide)
/-- A talk behind some others. -/
theorem talk_more {w : World} {b : Nat} {s : PS} {l : Int} (h : Pr w b s) (ho : Own5 s l) {x0 x1 x2 x3 a3 a4 R I V B D : Int} (L : List (Int × Int)) (hm : s.ask.ms = L) (hr : Reck a3 a4 x0 x1 x2 x3 R I V B) (hlen : L.length ≤ 5) (hK : (L.drop (L.length - 4))[0]? = some (a3, a4))
    (q0 : 0 ≤ s.seq) (q1 : s.seq ≤ 65535) (f0 : 0 ≤ s.failed) (f1 : s.failed ≤ 4611686018427387904) (h01 : In64 a3) (h02 : In64 a4) (h0 : In64 x0) (hx1 : In64 x1) (hx2 : In64 x2) (hx3 : In64 x3) (hD : max 0 (B.tdiv 2) = D) (hs1 : -1048576 ≤ B) (hs2 : D ≤ 1099511627776) (hB : In64 B) :
    Calls Try.prog 24 #[.pointer (some ⟨b, 0, none⟩), .agg #[.int .i64 x0, .int .i64 x1, .int .i64 x2, .int .i64 x3]] w fun e w' => e = .returned (.int .i64 0) ∧ Leave b w (afterN s x0 x1 x2 x3 (L.drop (L.length - 4)) R D) w' := by
  have hs := ho.same (ask_Same s)
  refine talk_any h x0 x1 x2 x3 q0 q1 f0 f1 (by rw [ho.id]; decide) (by rw [ho.id]; decide) (by rw [ho.port]; decide) (by rw [ho.port]; decide) hx1 hx2 fun W hW => ?_
  obtain ⟨v, hP⟩ := hW
  have hM : Mks W v L := by
    have := hP.mks
    have e : (talked s x0 x1 x3).ms = L := hm
    rw [e] at this
    exact this
  have e1 : (1 : Int) ≤ (talked s x0 x1 x3).win := by show 1 ≤ s.ask.win; rw [hs.win]; decide
  have e2 : (talked s x0 x1 x3).win ≤ 32 := by show s.ask.win ≤ 32; rw [hs.win]; decide
  have e3 : (talked s x0 x1 x3).win = 4 := hs.win
  have e4 : -(talked s x0 x1 x3).slack ≤ B := by show -s.ask.slack ≤ B; rw [hs.slack]; exact hs1
  have e5 : D ≤ (talked s x0 x1 x3).most := by show D ≤ s.ask.most; rw [hs.most]; exact hs2
  have e6 : In64 (talked s x0 x1 x3).slack := by show In64 s.ask.slack; rw [hs.slack]; exact ⟨by decide, by decide⟩
  have e7 : 0 ≤ (talked s x0 x1 x3).slack := by show 0 ≤ s.ask.slack; rw [hs.slack]; decide
  by_cases h5 : L.length = 5
  · match L, h5, hK, hM, hm with
    | y :: L, h5, hK, hM, hm =>
      simp only [List.length_cons] at h5
      have hd : (y :: L).drop ((y :: L).length - 4) = L := by rw [List.length_cons, h5]; rfl
      rw [hd] at hK ⊢
      obtain ⟨g, o, c, rfl, hc, hM2⟩ := hM.drop1 (by omega)
      exact end_drop (n := L.length + 1) (k := L.length) hP hr (by show (s.ask.ms).length = _; rw [hm]; rfl) hM2 rfl hK e1 e2 rfl (by rw [e3]; omega) hc rfl rfl rfl h01 h02 h0 hx1 hx2 hx3 hD e4 e5 e6 e7 hB
  · have hd : L.drop (L.length - 4) = L := by rw [show L.length - 4 = 0 by omega]; rfl
    rw [hd] at hK ⊢
    obtain ⟨p, c, rfl⟩ := hM.form
    rcases hM with ⟨e, rfl⟩ | ⟨g, o, c', cs, fr, e, k2, k3, k4, k5⟩
    · simp at hK
    · have e' := e
      injection e' with z1 z2 z3
      subst z1 z3
      exact end_all (n := L.length) (k := L.length) hP hr (by show (s.ask.ms).length = _; rw [hm]) (.inr ⟨g, o, c, cs, fr, rfl, k2, k3, k4, k5⟩) rfl hK e1 e2 rfl (by rw [e3]; omega) k4 rfl rfl rfl h01 h02 h0 hx1 hx2 hx3 hD e4 e5 e6 e7 hB

def H1 : PS := after1 (PS0 3) 65536000 327680000 393216000 157286400
def H2 : PS := afterN H1 720896000 983040000 1048576000 812646400 [(393216000, 157286400)] 2199023255552 13107200
theorem reckH : Reck 393216000 157286400 720896000 983040000 1048576000 812646400 2199023255552 2199023255552 65536000 26214400 :=
  ⟨⟨by decide, by decide⟩, ⟨by decide, by decide⟩, by decide +kernel, by decide +kernel, ⟨by decide, by decide⟩, ⟨by decide, by decide⟩, ⟨by decide, by decide⟩, by decide +kernel, by decide +kernel, ⟨by decide, by decide⟩, by decide +kernel, by decide +kernel, ⟨by decide, by decide⟩, ⟨by decide, by decide⟩, by decide⟩
theorem own5_after1 {s : PS} {l : Int} (h : Own5 s l) (x0 x1 x2 x3 : Int) : Own5 (after1 s x0 x1 x2 x3) l := by
  obtain ⟨a, b, c, d, e, f⟩ := h.same (ask_Same s)
  exact ⟨a, b, c, d, e, f⟩
theorem own5_afterN {s : PS} {l : Int} (h : Own5 s l) (x0 x1 x2 x3 : Int) (K : List (Int × Int)) (R D : Int) : Own5 (afterN s x0 x1 x2 x3 K R D) l := by
  obtain ⟨a, b, c, d, e, f⟩ := h.same (ask_Same s)
  exact ⟨a, b, c, d, e, f⟩
set_option maxHeartbeats 2000000 in
theorem head_ret (w : World) : Calls Try.prog 11 #[] w fun e w' => e = .returned (.bool true) ∧ Below w.heap.size w w' := by
  have HCf := Lib.hid (fun W => conf_any W)
  have HN := Lib.hid (fun W => new_ok 5 1 1099511627776 1048576 4 3 W (by decide))
  have HT1 : Hid (∀ W b, Pr W b (PS.new 5 1 1099511627776 1048576 4 3) → Calls Try.prog 24 #[.pointer (some ⟨b, 0, none⟩), .agg #[.int .i64 65536000, .int .i64 327680000, .int .i64 393216000, .int .i64 157286400]] W fun e w' => e = .returned (.int .i64 0) ∧ Leave b W H1 w') := Lib.hid (fun W b h => talk_first h (own5_new 3) 65536000 327680000 393216000 157286400 rfl (by decide) (by decide) (by decide) (by decide) ⟨by decide, by decide⟩ ⟨by decide, by decide⟩)
  have HT2 : Hid (∀ W b, Pr W b H1 → Calls Try.prog 24 #[.pointer (some ⟨b, 0, none⟩), .agg #[.int .i64 720896000, .int .i64 983040000, .int .i64 1048576000, .int .i64 812646400]] W fun e w' => e = .returned (.int .i64 0) ∧ Leave b W H2 w') := Lib.hid (fun W b h => talk_more h (own5_after1 (own5_new 3) _ _ _ _) [(393216000, 157286400)] rfl reckH (by decide) rfl (by decide) (by decide) (by decide) (by decide) ⟨by decide, by decide⟩ ⟨by decide, by decide⟩ ⟨by decide, by decide⟩ ⟨by decide, by decide⟩ ⟨by decide, by decide⟩ ⟨by decide, by decide⟩ (by decide) (by decide) (by decide) ⟨by decide, by decide⟩)
  have HA1 : Hid (∀ W b, Pr W b H1 → Calls Try.prog 26 #[.pointer (some ⟨b, 0, none⟩)] W fun e w' => e = .returned (.bool false) ∧ w' = W) := Lib.hid (fun W b h => able_any h)
  have HA2 : Hid (∀ W b, Pr W b H2 → Calls Try.prog 26 #[.pointer (some ⟨b, 0, none⟩)] W fun e w' => e = .returned (.bool true) ∧ w' = W) := Lib.hid (fun W b h => able_any h)
  have HD : Hid (∀ W b, Pr W b H2 → Calls Try.prog 21 #[.pointer (some ⟨b, 0, none⟩)] W fun e w' => e = .returned (.int .i64 13107200) ∧ w' = W) := Lib.hid (fun W b h => delay_any h)
  have HR : Hid (∀ W b, Pr W b H2 → Calls Try.prog 25 #[.pointer (some ⟨b, 0, none⟩)] W fun e w' => e = .returned (.int .i64 2199023255552) ∧ w' = W) := Lib.hid (fun W b h => rate_any h)
  go_enter Try.func11, Try.ntmps11
  go_wp2_with (first
    | (go_at_call 17; (with_reducible refine (HCf.out _).mono ?_); rintro e w1 ⟨rfl, hb⟩; have HB1 := Lib.hid hb; clear hb)
    | (go_at_call 12; (with_reducible refine (HN.out _).mono ?_); rintro e w2 ⟨b, rfl, hlo, hp, hb⟩; have HP2 := Lib.hid hp; have HB2 := Lib.hid (bTr HB1.out hb); have HL := Lib.hid (Nat.le_trans HB1.out.size hlo); clear hp hb hlo)
    | (go_at_call 24; (with_reducible refine (HT1.out _ _ HP2.out).mono ?_); rintro e w3 ⟨rfl, hp, hb⟩; have HP3 := Lib.hid hp; have HB3 := Lib.hid (hb.into HB2.out HL.out); clear hp hb)
    | (go_at_call 26; (with_reducible refine (HA1.out _ _ HP3.out).mono ?_); rintro e w4 ⟨rfl, rfl⟩)
    | (go_at_call 24; (with_reducible refine (HT2.out _ _ HP3.out).mono ?_); rintro e w5 ⟨rfl, hp, hb⟩; have HP5 := Lib.hid hp; have HB5 := Lib.hid (hb.into HB3.out HL.out); clear hp hb)
    | (go_at_call 21; (with_reducible refine (HD.out _ _ HP5.out).mono ?_); rintro e w6 ⟨rfl, rfl⟩)
    | (go_at_call 25; (with_reducible refine (HR.out _ _ HP5.out).mono ?_); rintro e w7 ⟨rfl, rfl⟩)
    | (go_at_call 26; (with_reducible refine (HA2.out _ _ HP5.out).mono ?_); rintro e w8 ⟨rfl, rfl⟩))
  go_ret
  exact ⟨rfl, HB5.out⟩

end Go.Proofs.Ytnfoimkiihfalaa
