/- Package agenda at int: Now, Wait, Drop. -/
import Derived.Test.YtnddiobjojnckaaAgApiI
namespace Go.Proofs.Ytnddiobjojnckaa
open Go.RowKit Go.Joins
namespace AgI

theorem now_nil (w : World) : Calls Try.prog 10 #[.pointer none] w fun e w' => e = .returned (.int .i64 0) ∧ Below w.heap.size w w' := by
  go_enter Try.func10, Try.ntmps10
  go_wp2_with fail
  go_ret
  exact ⟨rfl, bRef w⟩
theorem now_any {B : Nat} {w : World} {g : Nat} {now last : Int} {l : List Ent} (h : Ag B w g now last l) : Calls Try.prog 10 #[.pointer (some ⟨g, 0, none⟩)] w fun e w' => e = .returned (.int .i64 now) ∧ Below w.heap.size w w' := by
  obtain ⟨v, c0, c1, c2, _, _, hq⟩ := h.cells
  clear h hq
  go_enter Try.func10, Try.ntmps10
  go_wp2_with fail
  go_ret
  exact ⟨rfl, bRef w⟩

theorem wait_nil (x : Int) (w : World) : Calls Try.prog 8 #[.pointer none, .int .i64 x] w fun e w' => e = .returned (.int .i64 0) ∧ Below w.heap.size w w' := by
  go_enter Try.func8, Try.ntmps8
  go_wp2_with fail
  go_ret
  exact ⟨rfl, bRef w⟩
/-- The time up to which it is waited. -/
def upto (l : List Ent) (x : Int) : Int := if l.length = 0 then min x 1099511627776 else min (min x 1099511627776) (el l 0).at_
def WaitOk (B : Nat) (w : World) (g : Nat) (last : Int) (l : List Ent) (y : Int) (e : Ending) (w' : World) : Prop :=
  e = .returned (.int .i64 y) ∧ Ag B w' g y last l ∧ Below B w w' ∧ KeptT [51, 49] w w'
theorem wait_end {B : Nat} {w : World} {g : Nat} {last : Int} {l : List Ent} {z y : Int} (h : Ag B (w.setCell ⟨g, 0, none⟩ (.int .i64 y)) g y last l ∧ Below B w (w.setCell ⟨g, 0, none⟩ (.int .i64 y)) ∧ KeptT [51, 49] w (w.setCell ⟨g, 0, none⟩ (.int .i64 y))) (hz : z = y) :
    WaitOk B w g last l y (.returned (.int .i64 z)) (w.setCell ⟨g, 0, none⟩ (.int .i64 z)) := by
  subst hz
  exact ⟨rfl, h⟩
set_option maxHeartbeats 1000000 in
theorem wait_any {B : Nat} {w : World} {g : Nat} {now last : Int} {l : List Ent} (h : Ag B w g now last l) (x : Int) : Calls Try.prog 8 #[.pointer (some ⟨g, 0, none⟩), .int .i64 x] w (WaitOk B w g last l (max now (upto l x))) := by
  obtain ⟨v, c0, c1, c2, f0, f1, hq⟩ := h.cells
  have hS := h.set 0 (.inl rfl) (max now (upto l x))
  simp only [if_true, show ¬ (0 : Nat) = 1 by decide, if_false] at hS
  have HS := Lib.hid hS
  rcases Nat.eq_zero_or_pos l.length with h0 | h0
  · obtain ⟨p, c, rfl⟩ := hq.slice
    have hu : upto l x = min x 1099511627776 := by unfold upto; rw [if_pos h0]
    rw [h0] at c2
    rw [hu] at HS ⊢
    clear h hq hS h0 hu
    obtain ⟨m, hm⟩ : ∃ m, min x 1099511627776 = m := ⟨_, rfl⟩
    rw [hm] at HS ⊢
    obtain ⟨y, hy⟩ : ∃ y, max now m = y := ⟨_, rfl⟩
    rw [hy] at HS ⊢
    go_enter Try.func8, Try.ntmps8
    go_wp2_with fail
    all_goals
      go_ret
      exact wait_end HS.out (by omega)
  · obtain ⟨r, cap, cur, rfl, h1, hg, hn, hm, hs, ht⟩ := hq.row h0
    have k1 := row_cell hg ht h0
    have k2 := (hq.2 _ (el_mem h0)).cells.1
    have d3 : decide (0 < (l.length : Int)) = true := decide_eq_true (by omega)
    have hu : upto l x = min (min x 1099511627776) (el l 0).at_ := by unfold upto; rw [if_neg (by omega)]
    rw [hu] at HS ⊢
    generalize (el l 0).at_ = a at *
    generalize (el l 0).blk = b at *
    obtain ⟨n, hln⟩ : ∃ n, l.length = n := ⟨_, rfl⟩
    rw [hln] at c2 d3 h0
    have hz : (0 : Int) < (n : Int) := by omega
    clear h hq hS hu hg ht hs hln hn hm h1
    obtain ⟨m, hm⟩ : ∃ m, min x 1099511627776 = m := ⟨_, rfl⟩
    rw [hm] at HS ⊢
    obtain ⟨m2, hm2⟩ : ∃ m2, min m a = m2 := ⟨_, rfl⟩
    rw [hm2] at HS ⊢
    obtain ⟨y, hy⟩ : ∃ y, max now m2 = y := ⟨_, rfl⟩
    rw [hy] at HS ⊢
    go_enter Try.func8, Try.ntmps8
    go_wp2_with fail
    all_goals
      go_ret
      exact wait_end HS.out (by omega)

theorem dropf_ret (b bt : Nat) (t x : Int) (w : World) (c1 : w.cell? ⟨b, 1, none⟩ = some (.int .i64 t)) (c2 : w.cell? ⟨bt, 0, none⟩ = some (.int .i64 x)) :
    Calls Try.prog 17 #[.pointer (some ⟨b, 0, none⟩), .pointer (some ⟨bt, 0, none⟩)] w fun e w' => e = .returned (.bool (t == x)) ∧ Below w.heap.size w w' := by
  go_enter Try.func17, Try.ntmps17
  go_wp2_with fail
  go_quiet (fail)
  all_goals go_wp2_with fail
  all_goals
    go_ret
    exact ⟨rfl, bDr (bRef w) _⟩

def IdxRel (w : World) (l : List Ent) (x : Int) (kv : Value) (wr : World) : Prop := ∃ k : Nat, k ≤ l.length ∧ kv = .int .i64 (k : Int) ∧ (∀ j, j < k → (el l j).turn ≠ x) ∧ Below w.heap.size w wr
def IdxPost (w : World) (l : List Ent) (x : Int) (e : Ending) (w' : World) : Prop := ∃ r : Int, e = .returned (.int .i64 r) ∧ ((r = -1 ∧ ∀ k, k < l.length → (el l k).turn ≠ x) ∨ ∃ k : Nat, k < l.length ∧ r = (k : Int) ∧ (el l k).turn = x) ∧ Below w.heap.size w w'
set_option maxHeartbeats 1000000 in
theorem indexf_any {B : Nat} {w : World} {v : Value} {l : List Ent} (h : QSt B w v l) (bt : Nat) (x : Int) (hc : w.cell? ⟨bt, 0, none⟩ = some (.int .i64 x)) (hl : l.length ≤ 100000) :
    Calls Try.prog 16 #[v, .func (.func 17) #[] #[.pointer (some ⟨bt, 0, none⟩)]] w (IdxPost w l x) := by
  have hb0 := World.block_lt_of_cell? _ _ hc
  obtain ⟨p, c, rfl⟩ := h.slice
  obtain ⟨n, hn⟩ : ∃ n, l.length = n := ⟨_, rfl⟩
  have HN := Lib.hid hn
  have H := Lib.hid h
  have HC := Lib.hid hc
  rw [hn] at hl ⊢
  clear h hc hn
  go_enter Try.func16, Try.ntmps16
  go_wp2_with fail
  go_loopw [8] (fun kv wr => IdxRel w l x kv wr) (fun kv _ => n - (intOf kv).toNat)
  case atStart => exact ⟨0, by omega, rfl, fun j hj => absurd hj (Nat.not_lt_zero _), bRef w⟩
  case round =>
    obtain ⟨k, hk, rfl, hno, hb⟩ := hrel
    rw [HN.out] at hk
    have HB := Lib.hid hb
    have HNO := Lib.hid hno
    clear hb hno
    rcases Nat.lt_or_ge k n with g | g
    · have hd : decide ((k : Int) < (n : Int)) = true := decide_eq_true (by omega)
      have hk' : k < l.length := by rw [HN.out]; exact g
      have hq := H.out.below HB.out
      obtain ⟨r, cap, cur, e, h1, hg, hn, hm, hs, ht⟩ := hq.row (by omega)
      injection e with e1 e2 e3
      subst e1 e3
      have k1 := row_cell hg ht hk'
      have k2 := (hq.2 _ (el_mem hk')).cells.2.1
      have k3 := (HB.out.cell hb0).trans HC.out
      obtain ⟨b, hbe⟩ : ∃ b, (el l k).blk = b := ⟨_, rfl⟩
      obtain ⟨t, hte⟩ : ∃ t, (el l k).turn = t := ⟨_, rfl⟩
      rw [hbe] at k1 k2
      rw [hte] at k2
      have HF := Lib.hid (dropf_ret b bt t x wr k2 k3)
      have HT := Lib.hid hte
      clear hq hg ht hs hm hn h1 hbe hte k2 k3 e2
      by_cases hx : t = x
      · have hbx : (t == x) = true := by rw [beq_iff_eq]; exact hx
        have HX := Lib.hid hx
        rw [hbx] at HF
        clear hx hbx
        go_wp2_with (go_at_call 17; (with_reducible refine HF.out.mono ?_); rintro e w1 ⟨rfl, hb⟩; have HB1 := Lib.hid hb; clear hb)
        go_ret
        exact ⟨_, rfl, .inr ⟨k, hk', rfl, HT.out.trans HX.out⟩, bTr HB.out HB1.out⟩
      · have hbx : (t == x) = false := by rw [beq_eq_false_iff_ne]; exact hx
        have HX := Lib.hid hx
        rw [hbx] at HF
        clear hx hbx
        go_wp2_with (go_at_call 17; (with_reducible refine HF.out.mono ?_); rintro e w1 ⟨rfl, hb⟩; have HB1 := Lib.hid hb; clear hb)
        exact ⟨⟨k + 1, by rw [HN.out]; omega, by go_num, fun j hj => (Nat.lt_or_ge j k).elim (HNO.out j) (fun hge => by obtain rfl : j = k := by omega
                                                                                                                        rw [HT.out]; exact HX.out), bTr HB.out HB1.out⟩, by simp [intOf]; omega⟩
    · obtain rfl : k = n := by omega
      have hd : decide ((k : Int) < (k : Int)) = false := decide_eq_false (by omega)
      go_wp2_with fail
      go_ret
      exact ⟨_, rfl, .inl ⟨rfl, fun j hj => HNO.out j (by rw [HN.out] at hj; exact hj)⟩, HB.out⟩

theorem drop_nil (x : Int) (w : World) : Calls Try.prog 7 #[.pointer none, .int .i64 x] w fun e w' => e = .returned (.bool false) ∧ Below w.heap.size w w' := by
  go_enter Try.func7, Try.ntmps7
  go_wp2_with fail
  go_ret
  exact ⟨rfl, bAl (bRef w) _⟩
/-- What Drop does. -/
def DropPost (B : Nat) (w : World) (g : Nat) (now last : Int) (l : List Ent) (x : Int) (e : Ending) (w' : World) : Prop :=
  Below B w w' ∧ KeptT [51, 49] w w' ∧
  ((e = .returned (.bool false) ∧ (∀ a ∈ l, a.turn ≠ x) ∧ Ag B w' g now last l) ∨
   (e = .returned (.bool true) ∧ ∃ a l', a.turn = x ∧ (a :: l').Perm l ∧ Hp l' l'.length ∧ Ag B w' g now last l'))
theorem mem_el {l : List Ent} {a : Ent} (h : a ∈ l) : ∃ k, k < l.length ∧ el l k = a := by
  obtain ⟨k, hk, e⟩ := List.mem_iff_getElem.1 h
  refine ⟨k, hk, ?_⟩
  unfold el
  rw [List.getD_eq_getElem?_getD, List.getElem?_eq_getElem hk]
  exact e

set_option maxHeartbeats 1000000 in
theorem drop_any {B : Nat} {w : World} {g : Nat} {now last : Int} {l : List Ent} (h : Ag B w g now last l) (hh : Hp l l.length) (hl : l.length ≤ 100000) (x : Int) : Calls Try.prog 7 #[.pointer (some ⟨g, 0, none⟩), .int .i64 x] w (DropPost B w g now last l x) := by
  obtain ⟨W, hW⟩ : ∃ W, W = w.alloc (.cells #[.int .i64 x] 3) := ⟨_, rfl⟩
  have hbW : Below w.heap.size w W := by rw [hW]; exact bAl (bRef w) _
  have hA := h.below hbW
  have hBW : Below B w W := hbW.mono h.lt
  have hkW : KeptT [51, 49] w W := KeptT.of_below hbW
  obtain ⟨v, c0, c1, c2, f0, f1, hq⟩ := hA.cells
  have cb : W.cell? ⟨w.heap.size, 0, none⟩ = some (.int .i64 x) := by rw [hW]; exact cell_of_row _ _ _ _ _ _ (heap_alloc_new w _)
  have HI := Lib.hid (indexf_any hq w.heap.size x cb hl)
  have HA := Lib.hid hA
  have HB := Lib.hid hBW
  have HK := Lib.hid hkW
  have HH := Lib.hid hh
  have HL := Lib.hid hl
  obtain ⟨p, c, rfl⟩ := hq.slice
  have c2' := c2
  rw [hW] at c2'
  have HW := Lib.hid hW
  clear h hh hl hbW hA hBW hkW hq c0 c1 c2 f0 f1 cb hW
  go_enter Try.func7, Try.ntmps7
  go_wp2_with fail
  rw [← HW.out]
  refine HI.out.mono ?_
  rintro e w1 ⟨r, rfl, hr, hb⟩
  have HA1 := Lib.hid (HA.out.below hb)
  have HB1 := Lib.hid (HB.out.trans (hb.mono HA.out.lt))
  have HK1 := Lib.hid (HK.out.trans (KeptT.of_below hb))
  clear hb
  rcases hr with ⟨rfl, hno⟩ | ⟨k, hk, rfl, ht⟩
  · have HNO := Lib.hid hno
    clear hno
    go_wp2_with fail
    go_ret
    exact ⟨HB1.out, HK1.out, .inl ⟨rfl, fun a ha => by obtain ⟨k, hk, rfl⟩ := mem_el ha; exact HNO.out k hk, HA1.out⟩⟩
  · have HT := Lib.hid (takeFrom_any HA1.out HH.out HL.out hk)
    have HTU := Lib.hid ht
    have d1 : decide ((k : Int) < 0) = false := decide_eq_false (by omega)
    clear ht
    go_wp2_with (go_at_call 18; (with_reducible refine HT.out.mono ?_); rintro e w2 ⟨rfl, l', hA, hp, hm, hE, hb, hk2⟩; have HA2 := Lib.hid hA; have HP2 := Lib.hid hp; have HM := Lib.hid hm; have HB2 := Lib.hid (HB1.out.trans hb); have HK2 := Lib.hid (HK1.out.trans hk2); clear hA hp hm hE hb hk2)
    go_ret
    exact ⟨HB2.out, HK2.out, .inr ⟨rfl, _, l', HTU.out, HM.out, HP2.out, HA2.out⟩⟩

end AgI
end Go.Proofs.Ytnddiobjojnckaa
