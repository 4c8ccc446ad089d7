/- A gate: Change. -/
import Derived.Test.YtllmfkodgalklaaPoGate2
namespace Go.Proofs.Ytllmfkodgalklaa
open Go.RowKit Go.Joins

section
variable {L : Nat} {W : World} {k : Nat} {g : GS}
theorem change_nil (b c : Int) (sl : Value) (x : Int) (W : World) :
    Calls Try.prog 40 #[.pointer none, LV b c sl, .int .i64 x] W fun e w' => e = .returned (.int .i64 1) ∧ Below W.heap.size W w' := by
  have HB := Lib.hid (bAl (bRef W) (.cells #[.int .i64 b, .int .i64 c, sl] 24))
  go_enter Try.func40, Try.ntmps40
  go_wp2_with fail
  go_ret
  exact ⟨rfl, HB.out⟩
theorem change_bad (b c : Int) (sl : Value) (ts : List (Int × Int)) (x : Int) (W : World) (h : TArg W sl ts) (hz : chkV b c ts ≠ 0) :
    Calls Try.prog 40 #[.pointer (some ⟨k, 0, none⟩), LV b c sl, .int .i64 x] W fun e w' => e = .returned (.int .i64 (chkV b c ts)) ∧ Below W.heap.size W w' := by
  have HB := Lib.hid (bAl (bRef W) (.cells #[.int .i64 b, .int .i64 c, sl] 24))
  have HA := Lib.hid (h.below HB.out)
  have HC := Lib.hid (fun W (h : TArg W sl ts) => check_any b c sl ts W h)
  have d1 : (chkV b c ts != 0) = true := by simpa using hz
  generalize chkV b c ts = z at *
  obtain ⟨p, cp, rfl⟩ := h.slice
  clear h hz
  go_enter Try.func40, Try.ntmps40
  go_wp2_with (go_at_call 10; (with_reducible refine (HC.out _ HA.out).mono ?_); rintro e w1 ⟨rfl, hb⟩; have HB1 := Lib.hid (bTr HB.out hb); clear hb)
  go_ret
  exact ⟨rfl, HB1.out⟩
theorem change_late (b c : Int) (sl : Value) (ts : List (Int × Int)) (x : Int) (W : World) (h : TArg W sl ts) (hz : chkV b c ts = 0) (hx : x < 0 ∨ 1099511627776 < x) :
    Calls Try.prog 40 #[.pointer (some ⟨k, 0, none⟩), LV b c sl, .int .i64 x] W fun e w' => e = .returned (.int .i64 1) ∧ Below W.heap.size W w' := by
  have HB := Lib.hid (bAl (bRef W) (.cells #[.int .i64 b, .int .i64 c, sl] 24))
  have HA := Lib.hid (h.below HB.out)
  have HC := Lib.hid (fun W (h : TArg W sl ts) => check_any b c sl ts W h)
  rw [hz] at HC
  obtain ⟨p, cp, rfl⟩ := h.slice
  by_cases h0 : x < 0
  · have d1 : decide (x < 0) = true := decide_eq_true h0
    clear h hz hx h0
    go_enter Try.func40, Try.ntmps40
    go_wp2_with (go_at_call 10; (with_reducible refine (HC.out _ HA.out).mono ?_); rintro e w1 ⟨rfl, hb⟩; have HB1 := Lib.hid (bTr HB.out hb); clear hb)
    go_ret
    exact ⟨rfl, HB1.out⟩
  · have d1 : decide (x < 0) = false := decide_eq_false h0
    have d2 : decide (1099511627776 < x) = true := decide_eq_true (by omega)
    clear h hz hx h0
    go_enter Try.func40, Try.ntmps40
    go_wp2_with (go_at_call 10; (with_reducible refine (HC.out _ HA.out).mono ?_); rintro e w1 ⟨rfl, hb⟩; have HB1 := Lib.hid (bTr HB.out hb); clear hb)
    go_ret
    exact ⟨rfl, HB1.out⟩
set_option maxHeartbeats 2000000 in
theorem change_ok {w : World} (h : GT L W k g) (hs : g.Sl) (b c : Int) (sl : Value) (ts : List (Int × Int)) (x : Int) (ht : TArg W sl ts) (hne : 0 < ts.length → sl.ownBlock ≠ some k) (hz : chkV b c ts = 0) (hx0 : 0 ≤ x) (hx1 : x ≤ 1099511627776) (hw : W = w) :
    Calls Try.prog 40 #[.pointer (some ⟨k, 0, none⟩), LV b c sl, .int .i64 x] W fun e w' => ∃ p cp, e = .returned (.int .i64 0) ∧ Mine w w' (.slice p ts.length cp) ts.length ∧ TArg w' (.slice p ts.length cp) ts ∧
      GT L w' k ⟨(g.turn x).b1, (g.turn x).c1, (g.turn x).s1, b, c, .slice p ts.length cp, (turnV b c ts (max x b)).1, true⟩ ∧ ButB k w w' := by
  subst hw
  have hg := chk_good hz
  have hl : ts.length ≤ 1000 := by have := hg.len; omega
  have hlt := lt_of_heap h
  have HK := Lib.hid hlt
  have hB0 := bAl (bRef W) (.cells #[.int .i64 b, .int .i64 c, sl] 24)
  have HTU := Lib.hid (fun W' (hh : GT L W' k g) => gturn_any hh hs x)
  have HG0 := Lib.hid (h.below hB0)
  have HSl := hs.turn x
  have HL0 := Lib.hid (LB.new W b c sl)
  have HA := Lib.hid (ht.below hB0)
  have HC := Lib.hid (fun W (h : TArg W sl ts) => check_any b c sl ts W h)
  rw [hz] at HC
  have HB0 := Lib.hid (ButB.of_below (b := k) hB0)
  have HNE := Lib.hid hne
  generalize g.turn x = g' at *
  have HO := Lib.hid (fun W (h : TArg W sl ts) => own_any (b := b) (c := c) h hl)
  obtain ⟨y, hy⟩ : ∃ y, y = max x b := ⟨_, rfl⟩
  have HU := Lib.hid (fun W (h : TArg W sl ts) => turn_any b c sl ts y W h)
  rw [← hy]
  generalize (turnV b c ts y).1 = t1 at *
  generalize (turnV b c ts y).2 = t2 at *
  obtain ⟨p0, c0, e0⟩ := ht.slice
  obtain ⟨n, hn⟩ : ∃ n, ts.length = n := ⟨_, rfl⟩
  have HN := Lib.hid hn
  rw [hn] at HO e0 ⊢
  subst e0
  obtain ⟨⟨p1, n1, k1, e1⟩, p2, n2, k2, e2⟩ := HSl
  rcases g' with ⟨b1, cc1, s1, b2, cc2, s2, fr, wt⟩
  dsimp only at e1 e2 HTU ⊢
  subst e1 e2
  have d1 : decide (x < 0) = false := decide_eq_false (by omega)
  have d2 : decide (1099511627776 < x) = false := decide_eq_false (by omega)
  obtain ⟨l0, l1, l2⟩ := HL0.out.cells
  have fin : ∀ (W0 w3 : World) (p3 : Option Addr) (k3 : Nat), W.heap.size + 1 ≤ W0.heap.size → Mine W0 w3 (.slice p3 n k3) ts.length → TArg w3 (.slice p3 n k3) ts → GT L w3 k ⟨b1, cc1, .slice p1 n1 k1, b2, cc2, .slice p2 n2 k2, t1, wt⟩ → ButB k W w3 →
      ((Mine W ((((w3.setCell ⟨k, 3, none⟩ (.int .i64 b)).setCell ⟨k, 4, none⟩ (.int .i64 c)).setCell ⟨k, 5, none⟩ (.slice p3 n k3)).setCell ⟨k, 7, none⟩ (.bool true)) (.slice p3 n k3) n ∧ TArg ((((w3.setCell ⟨k, 3, none⟩ (.int .i64 b)).setCell ⟨k, 4, none⟩ (.int .i64 c)).setCell ⟨k, 5, none⟩ (.slice p3 n k3)).setCell ⟨k, 7, none⟩ (.bool true)) (.slice p3 n k3) ts ∧
        GT L ((((w3.setCell ⟨k, 3, none⟩ (.int .i64 b)).setCell ⟨k, 4, none⟩ (.int .i64 c)).setCell ⟨k, 5, none⟩ (.slice p3 n k3)).setCell ⟨k, 7, none⟩ (.bool true)) k ⟨b1, cc1, .slice p1 n1 k1, b, c, .slice p3 n k3, t1, true⟩ ∧ ButB k W ((((w3.setCell ⟨k, 3, none⟩ (.int .i64 b)).setCell ⟨k, 4, none⟩ (.int .i64 c)).setCell ⟨k, 5, none⟩ (.slice p3 n k3)).setCell ⟨k, 7, none⟩ (.bool true)))) := by
    intro W0 w3 p3 k3 hsz hm ht hg hb
    have off : ∀ j, j ≠ k → ((((w3.setCell ⟨k, 3, none⟩ (.int .i64 b)).setCell ⟨k, 4, none⟩ (.int .i64 c)).setCell ⟨k, 5, none⟩ (.slice p3 n k3)).setCell ⟨k, 7, none⟩ (.bool true)).heap[j]? = w3.heap[j]? := fun j hj => by
      rw [heap_setCell_other _ _ _ _ hj, heap_setCell_other _ _ _ _ hj, heap_setCell_other _ _ _ _ hj, heap_setCell_other _ _ _ _ hj]
    refine ⟨?_, ?_, ?_, hb.trans ((set_but 3 _).trans ((set_but 4 _).trans ((set_but 5 _).trans (set_but 7 _))))⟩
    · intro h0
      obtain ⟨gg, cap, cur, e, hn', hg', hh, hs⟩ := hm (by omega)
      exact ⟨gg, cap, cur, by rw [e, hn], by omega, by omega, (off _ (by omega)).trans hh, hs⟩
    · refine ht.keep (by simp) fun h0 bb e => off _ ?_
      have := hm.own h0 e
      omega
    · have h3 : (w3.setCell ⟨k, 3, none⟩ (.int .i64 b)).heap[k]? = some (.cells #[.int .i64 b1, .int .i64 cc1, .slice p1 n1 k1, .int .i64 b, .int .i64 cc2, .slice p2 n2 k2, .int .i64 t1, .bool wt, .pointer (some ⟨L, 0, none⟩)] 70 (0, 0)) := heap_setCell_same w3 _ 3 _ _ _ hg
      have h4 : ((w3.setCell ⟨k, 3, none⟩ (.int .i64 b)).setCell ⟨k, 4, none⟩ (.int .i64 c)).heap[k]? = some (.cells #[.int .i64 b1, .int .i64 cc1, .slice p1 n1 k1, .int .i64 b, .int .i64 c, .slice p2 n2 k2, .int .i64 t1, .bool wt, .pointer (some ⟨L, 0, none⟩)] 70 (0, 0)) := heap_setCell_same _ _ 4 _ _ _ h3
      have h5 : (((w3.setCell ⟨k, 3, none⟩ (.int .i64 b)).setCell ⟨k, 4, none⟩ (.int .i64 c)).setCell ⟨k, 5, none⟩ (.slice p3 n k3)).heap[k]? = some (.cells #[.int .i64 b1, .int .i64 cc1, .slice p1 n1 k1, .int .i64 b, .int .i64 c, .slice p3 n k3, .int .i64 t1, .bool wt, .pointer (some ⟨L, 0, none⟩)] 70 (0, 0)) := heap_setCell_same _ _ 5 _ _ _ h4
      exact heap_setCell_same _ _ 7 _ _ _ h5
  have FIN := Lib.hid fin
  by_cases hxb : x < b
  · obtain rfl : y = b := by omega
    have emx : max x y = y := by omega
    clear h hs ht hne hl hg hn hlt hB0 hz hx0 hx1 hy fin
    go_enter Try.func40, Try.ntmps40
    go_wp2_with (first
      | (go_at_call 10; (with_reducible refine (HC.out _ HA.out).mono ?_); rintro e w1 ⟨rfl, hb⟩; have HL1 := Lib.hid (HL0.out.below hb); have HA1 := Lib.hid (HA.out.below hb); have HG1 := Lib.hid (HG0.out.below hb); have HB1 := Lib.hid (HB0.out.trans (ButB.of_below hb)); clear hb)
      | (go_at_call 51; (with_reducible refine (HTU.out _ HG1.out).mono ?_); rintro e w2 ⟨rfl, hg, hb⟩; have HG2 := Lib.hid hg; have HL2 := Lib.hid (HL1.out.but hb (by have := HK.out; omega)); have HA2 := Lib.hid (HA1.out.but hb HNE.out); have HB2 := Lib.hid (HB1.out.trans hb); obtain ⟨i0, i1, i2⟩ := HL2.out.cells; clear hg hb)
      | (go_at_call 54; (with_reducible refine (HU.out _ HA2.out).mono ?_); rintro e w3 ⟨rfl, hb⟩; have f6 := (HG2.out.below hb).frozen 6; obtain ⟨-, -, -, -, -, -, r6, -⟩ := (HG2.out.below hb).cells; have HG3 := Lib.hid (show GT L (w3.setCell ⟨k, 6, none⟩ (.int .i64 t1)) k ⟨b1, cc1, .slice p1 n1 k1, b2, cc2, .slice p2 n2 k2, t1, wt⟩ from heap_setCell_same w3 _ 6 _ _ _ (HG2.out.below hb)); have hbb := (ButB.of_below (b := k) hb).trans (set_but 6 (.int .i64 t1)); have HL3 := Lib.hid (HL2.out.but hbb (by have := HK.out; omega)); have HA3 := Lib.hid (HA2.out.but hbb HNE.out); have HB3 := Lib.hid (HB2.out.trans hbb); obtain ⟨j0, j1, j2⟩ := HL3.out.cells; have HSZ := Lib.hid (lt_of_heap HL3.out); clear hb hbb)
      | (go_at_call 52; (with_reducible refine (HO.out _ HA3.out).mono ?_); rintro e w4 ⟨p3, k3, rfl, hm, ht, hb⟩; have HF := Lib.hid (FIN.out _ _ p3 k3 HSZ.out (by rw [HN.out]; exact hm) ht (HG3.out.below hb) (HB3.out.trans (ButB.of_below hb))); have hg4 := HG3.out.below hb; obtain ⟨f3, f4, f5, f7⟩ := (⟨hg4.frozen 3, hg4.frozen 4, hg4.frozen 5, hg4.frozen 7⟩ : _ ∧ _ ∧ _ ∧ _); obtain ⟨-, -, -, r3, r4, r5, -, r7⟩ := hg4.cells; clear hm ht hb hg4))
    go_ret
    exact ⟨_, _, rfl, HF.out⟩
  · obtain rfl : y = x := by omega
    have emx : max y b = y := by omega
    clear h hs ht hne hl hg hn hlt hB0 hz hx0 hx1 hy fin
    go_enter Try.func40, Try.ntmps40
    go_wp2_with (first
      | (go_at_call 10; (with_reducible refine (HC.out _ HA.out).mono ?_); rintro e w1 ⟨rfl, hb⟩; have HL1 := Lib.hid (HL0.out.below hb); have HA1 := Lib.hid (HA.out.below hb); have HG1 := Lib.hid (HG0.out.below hb); have HB1 := Lib.hid (HB0.out.trans (ButB.of_below hb)); clear hb)
      | (go_at_call 51; (with_reducible refine (HTU.out _ HG1.out).mono ?_); rintro e w2 ⟨rfl, hg, hb⟩; have HG2 := Lib.hid hg; have HL2 := Lib.hid (HL1.out.but hb (by have := HK.out; omega)); have HA2 := Lib.hid (HA1.out.but hb HNE.out); have HB2 := Lib.hid (HB1.out.trans hb); obtain ⟨i0, i1, i2⟩ := HL2.out.cells; clear hg hb)
      | (go_at_call 54; (with_reducible refine (HU.out _ HA2.out).mono ?_); rintro e w3 ⟨rfl, hb⟩; have f6 := (HG2.out.below hb).frozen 6; obtain ⟨-, -, -, -, -, -, r6, -⟩ := (HG2.out.below hb).cells; have HG3 := Lib.hid (show GT L (w3.setCell ⟨k, 6, none⟩ (.int .i64 t1)) k ⟨b1, cc1, .slice p1 n1 k1, b2, cc2, .slice p2 n2 k2, t1, wt⟩ from heap_setCell_same w3 _ 6 _ _ _ (HG2.out.below hb)); have hbb := (ButB.of_below (b := k) hb).trans (set_but 6 (.int .i64 t1)); have HL3 := Lib.hid (HL2.out.but hbb (by have := HK.out; omega)); have HA3 := Lib.hid (HA2.out.but hbb HNE.out); have HB3 := Lib.hid (HB2.out.trans hbb); obtain ⟨j0, j1, j2⟩ := HL3.out.cells; have HSZ := Lib.hid (lt_of_heap HL3.out); clear hb hbb)
      | (go_at_call 52; (with_reducible refine (HO.out _ HA3.out).mono ?_); rintro e w4 ⟨p3, k3, rfl, hm, ht, hb⟩; have HF := Lib.hid (FIN.out _ _ p3 k3 HSZ.out (by rw [HN.out]; exact hm) ht (HG3.out.below hb) (HB3.out.trans (ButB.of_below hb))); have hg4 := HG3.out.below hb; obtain ⟨f3, f4, f5, f7⟩ := (⟨hg4.frozen 3, hg4.frozen 4, hg4.frozen 5, hg4.frozen 7⟩ : _ ∧ _ ∧ _ ∧ _); obtain ⟨-, -, -, r3, r4, r5, -, r7⟩ := hg4.cells; clear hm ht hb hg4))
    go_ret
    exact ⟨_, _, rfl, HF.out⟩
end

end Go.Proofs.Ytllmfkodgalklaa
