/- The law's talk: one question with its four times. -/
import Derived.Test.YtnfoimkiihfalaaPeIn2
import Derived.Test.YtnfoimkiihfalaaPeNew
namespace Go.Proofs.Ytnfoimkiihfalaa
open Go.RowKit Go.Joins

theorem Try.builtRsp (q x1 id port : Int) : Try.prog.built 30 [(0, .int .i64 3), (2, .int .i64 q), (3, .int .i64 9), (4, .int .i64 2), (6, .int .i64 x1), (7, .int .i64 id), (8, .int .i64 port)] = some #[.int .i64 3, .int .i64 0, .int .i64 q, .int .i64 9, .int .i64 2, .int .i64 0, .int .i64 x1, .int .i64 id, .int .i64 port, .int .i64 0, .int .i64 0, .int .i64 0, .int .i64 0, .int .i64 0, .int .i64 0, .slice none 0 0] := by kernel_rfl
theorem fail_same (s : PS) : s.fail.seq = s.seq ∧ s.fail.id = s.id ∧ s.fail.port = s.port ∧ s.fail.most = s.most ∧ s.fail.slack = s.slack ∧ s.fail.win = s.win ∧ s.fail.lost = s.lost := by
  unfold PS.fail
  split <;> exact ⟨rfl, rfl, rfl, rfl, rfl, rfl, rfl⟩
theorem ask_same (s : PS) : s.ask.seq = (s.seq + 1) % 65536 ∧ s.ask.stage = 1 ∧ s.ask.id = s.id ∧ s.ask.port = s.port := by
  obtain ⟨f1, f2, f3, _⟩ := fail_same s
  unfold PS.ask
  by_cases h : s.stage = 0
  · rw [if_pos h]; exact ⟨rfl, rfl, rfl, rfl⟩
  · rw [if_neg h]; exact ⟨rfl, rfl, f2, f3⟩
theorem mid_row (w : World) (a : Nat) (q x1 x2 id port : Int) (h : w.heap[a]? = some (.cells #[.int .i64 3, .int .i64 0, .int .i64 q, .int .i64 9, .int .i64 2, .int .i64 0, .int .i64 x1, .int .i64 id, .int .i64 port, .int .i64 0, .int .i64 0, .int .i64 0, .int .i64 0, .int .i64 0, .int .i64 0, .slice none 0 0] 30 (0, 0))) : ((w.setCell ⟨a, 0, none⟩ (.int .i64 10)).setCell ⟨a, 6, none⟩ (.int .i64 x2)).heap[a]? = some (.cells (MC (RespM 10 q 9 2 x2 id port) (.slice none 0 0)) 30 (0, 0)) := by
  have k1 := heap_setCell_same w a 0 _ _ (.int .i64 10) h
  have k2 := heap_setCell_same _ a 6 _ _ (.int .i64 x2) k1
  exact k2
theorem Pr.setOther {w : World} {b a : Nat} {s : PS} {cs : Array Value} {fr : Nat × Nat} (h : Pr w b s) (ha : w.heap[a]? = some (.cells cs 30 fr)) (i : Nat) (x : Value) (j : Nat) (y : Value) : Pr ((w.setCell ⟨a, i, none⟩ x).setCell ⟨a, j, none⟩ y) b s := by
  obtain ⟨v, h⟩ := h
  have k1 : ∀ (k : Nat) (c : Array Value) (t : TypeId) (f : Nat × Nat), w.heap[k]? = some (Obj.cells c t f) → t ≠ 30 → ((w.setCell ⟨a, i, none⟩ x).setCell ⟨a, j, none⟩ y).heap[k]? = w.heap[k]? := fun k c t f hk ht => by
    have hne : k ≠ a := fun e => by
      subst e
      rw [ha] at hk
      injection hk with hk
      injection hk with _ hk
      exact ht hk.symm
    rw [heap_setCell_other _ ⟨a, j, none⟩ k y hne, heap_setCell_other _ ⟨a, i, none⟩ k x hne]
  exact ⟨v, (k1 b _ _ _ h.box (by decide)).trans h.box, h.mks.keep fun k c f hk => k1 k c _ f hk (by decide)⟩
theorem ButB.setOther {w w' : World} {b g i : Nat} {v : Value} (h : ButB b w w') (hg : w.heap.size ≤ g) : ButB b w (w'.setCell ⟨g, i, none⟩ v) :=
  ⟨h.os, h.tape, h.output, by simp; exact h.size, fun k hk hn => (heap_setCell_other w' ⟨g, i, none⟩ k v (by show k ≠ g; omega)).trans (h.block k hk hn)⟩
/-- One question, with its four times. -/
def talked (s : PS) (x0 x1 x3 : Int) : PS := { s.ask with t1 := x0, t2 := x1, t4 := x3, stage := 3 }
set_option maxRecDepth 20000 in
set_option maxHeartbeats 4000000 in
theorem talk_any {w : World} {b : Nat} {s s4 : PS} (h : Pr w b s) (x0 x1 x2 x3 : Int) (q0 : 0 ≤ s.seq) (q1 : s.seq ≤ 65535) (f0 : 0 ≤ s.failed) (f1 : s.failed ≤ 4611686018427387904) (i0 : 0 ≤ s.id) (i1 : s.id ≤ 281474976710655) (p0 : 0 ≤ s.port) (p1 : s.port ≤ 65535) (hx1 : In64 x1) (hx2 : In64 x2)
    (HE : ∀ W, Pr W b (talked s x0 x1 x3) → Calls Try.prog 46 #[.pointer (some ⟨b, 0, none⟩), .int .i64 x2] W fun e w' => e = .returned (.int .i64 0) ∧ Leave b W s4 w') :
    Calls Try.prog 24 #[.pointer (some ⟨b, 0, none⟩), .agg #[.int .i64 x0, .int .i64 x1, .int .i64 x2, .int .i64 x3]] w fun e w' => e = .returned (.int .i64 0) ∧ Leave b w s4 w' := by
  obtain ⟨a1, a2, a3, a4⟩ := ask_same s
  have hlt := h.lt
  have hb0 := bAl (bRef w) (Obj.cells #[Value.int .i64 x0, Value.int .i64 x1, Value.int .i64 x2, Value.int .i64 x3] 51)
  have HA := ask_any (h.below hb0) q0 q1 f0 f1
  unfold talked at HE
  rw [← a1, ← a3, ← a4] at HA
  obtain ⟨q, hq⟩ : ∃ q, s.ask.seq = q := ⟨_, rfl⟩
  obtain ⟨id, hid⟩ : ∃ id, s.ask.id = id := ⟨_, rfl⟩
  obtain ⟨port, hport⟩ : ∃ port, s.ask.port = port := ⟨_, rfl⟩
  have hq0 : 0 ≤ q := by omega
  have hq1 : q ≤ 65535 := by omega
  have hi0 : 0 ≤ id := by omega
  have hi1 : id ≤ 281474976710655 := by omega
  have hp0 : 0 ≤ port := by omega
  have hp1 : port ≤ 65535 := by omega
  have HC1 : Hid (∀ W, ChkTo W (RespM 3 q 9 2 x1 id port) (.slice none 0 0) 0) := Lib.hid (fun W => resp_to W (.inl rfl) hq0 hq1 (by decide) (by decide) (by decide) (by decide) hi0 hi1 hp0 hp1 hx1)
  have HC2 : Hid (∀ W, ChkTo W (RespM 10 q 9 2 x2 id port) (.slice none 0 0) 0) := Lib.hid (fun W => resp_to W (.inr rfl) hq0 hq1 (by decide) (by decide) (by decide) (by decide) hi0 hi1 hp0 hp1 hx2)
  rw [hq, hid, hport] at HA
  generalize s.ask = sA at *
  unfold ReqC at HA
  replace HA := Lib.hid HA
  have HS : Hid (∀ W, Pr W b sA → Calls Try.prog 19 #[.pointer (some ⟨b, 0, none⟩), .int .i64 q, .int .i64 x0] W fun e w' => e = .returned (.tuple #[]) ∧ Leave b W { sA with t1 := x0, stage := 2 } w') := Lib.hid (fun W hW => by
    subst hq
    exact sent_one hW x0 a2)
  have HR : Hid (∀ W, Pr W b { sA with t1 := x0, stage := 2 } → Calls Try.prog 20 #[.pointer (some ⟨b, 0, none⟩), .agg (MC (RespM 3 q 9 2 x1 id port) (.slice none 0 0)), .int .i64 x3] W fun e w' => e = .returned (.int .i64 0) ∧ Leave b W { sA with t1 := x0, t2 := x1, t4 := x3, stage := 3 } w') := Lib.hid (fun W hW => in_resp hW (RespM 3 q 9 2 x1 id port) _ x3 hq.symm hid.symm hport.symm rfl rfl (HC1.out W))
  have HM : Hid (∀ W, Pr W b { sA with t1 := x0, t2 := x1, t4 := x3, stage := 3 } → Calls Try.prog 20 #[.pointer (some ⟨b, 0, none⟩), .agg (MC (RespM 10 q 9 2 x2 id port) (.slice none 0 0)), .int .i64 0] W fun e w' => e = .returned (.int .i64 0) ∧ Leave b W s4 w') := Lib.hid (fun W hW => in_more hW (RespM 10 q 9 2 x2 id port) _ 0 hq.symm hid.symm hport.symm rfl rfl (HC2.out W) HE)
  have HB0 := Lib.hid (ButB.of_below (b := b) hb0)
  have harr := heap_alloc_new w (Obj.cells #[Value.int .i64 x0, Value.int .i64 x1, Value.int .i64 x2, Value.int .i64 x3] 51)
  replace harr := Lib.hid harr
  clear h hb0 HE a1 a2 a3 a4 hq hid hport hq0 hq1 hi0 hi1 hp0 hp1 q0 q1 f0 f1 i0 i1 p0 p1 hx1 hx2
  go_enter Try.func24, Try.ntmps24
  go_wp2_with (first
    | (go_at_call 18; (with_reducible refine HA.out.mono ?_); rintro e w1 ⟨rfl, hp, hb⟩; have HP1 := Lib.hid hp; have HB1 := Lib.hid (HB0.out.trans hb); have hr1 := (hb.block w.heap.size (by simp) (by omega)).trans harr.out; have HR1 := Lib.hid hr1; have a0 : ∀ o, (w1.alloc o).cell? ⟨w.heap.size, 0, none⟩ = some (.int .i64 x0) := (fun o => cell_of_row _ _ _ _ _ _ ((heap_alloc_old w1 o (lt_of_heap hr1)).trans hr1)); have lt1 := lt_of_heap hr1; have ltb1 := hp.lt; clear hp hb hr1)
    | ((with_reducible refine at_storeM ?_); refine wpList_storeNM rfl _ _ rfl _ rfl #[.int .i64 2, .int .i64 0, .int .i64 q, .int .i64 id, .int .i64 port, .int .i64 0, .int .i64 0, .int .i64 0, .int .i64 0, .int .i64 0, .int .i64 0, .int .i64 0, .int .i64 0, .int .i64 0, .int .i64 0, .slice none 0 0] _ rfl rfl (by simp [Value.oneCell']) rfl rfl ?_)
    | (go_at_call 19; (with_reducible refine (HS.out _ (HP1.out.below (bAl (bRef _) _))).mono ?_); rintro e w2 ⟨rfl, hp, hb⟩; have HP2 := Lib.hid hp; have HB2 := Lib.hid ((HB1.out.trans (ButB.of_below (b := b) (bAl (bRef w1) _))).trans hb); have hr2 := (hb.block w.heap.size (by simp; omega) (by omega)).trans ((heap_alloc_old w1 _ lt1).trans HR1.out); have hm2 := (hb.block w1.heap.size (by simp) (by omega)).trans (heap_alloc_new w1 _); have HR2 := Lib.hid hr2; have e1 := cell_of_row _ _ 1 _ _ _ hr2; have m2 := cell_of_row _ _ 2 _ _ _ hm2; have m3 := cell_of_row _ _ 3 _ _ _ hm2; have m4 := cell_of_row _ _ 4 _ _ _ hm2; simp only [List.getElem?_toArray, List.getElem?_cons_zero, List.getElem?_cons_succ] at e1 m2 m3 m4; have lt2 := lt_of_heap hr2; have ltb2 := hp.lt; have e3 : ∀ o, (w2.alloc o).cell? ⟨w.heap.size, 3, none⟩ = some (.int .i64 x3) := (fun o => cell_of_row _ _ _ _ _ _ ((heap_alloc_old w2 o lt2).trans hr2)); clear hp hb hr2 hm2)
    | ((with_reducible refine at_buildG ?_); refine wpList_buildG rfl _ _ rfl #[.int .i64 3, .int .i64 0, .int .i64 q, .int .i64 9, .int .i64 2, .int .i64 0, .int .i64 x1, .int .i64 id, .int .i64 port, .int .i64 0, .int .i64 0, .int .i64 0, .int .i64 0, .int .i64 0, .int .i64 0, .slice none 0 0] (by simp only [List.map_toArray, List.map_cons, List.map_nil]; exact Try.builtRsp q x1 id port) ?_)
    | ((with_reducible refine at_storeM ?_); refine wpList_storeNM rfl _ _ rfl _ rfl #[.int .i64 3, .int .i64 0, .int .i64 q, .int .i64 9, .int .i64 2, .int .i64 0, .int .i64 x1, .int .i64 id, .int .i64 port, .int .i64 0, .int .i64 0, .int .i64 0, .int .i64 0, .int .i64 0, .int .i64 0, .slice none 0 0] _ rfl rfl (by simp [Value.oneCell']) rfl rfl ?_)
    | ((with_reducible refine at_loadM ?_); refine wpList_loadM rfl _ rfl w2.heap.size rfl (MC (RespM 3 q 9 2 x1 id port) (.slice none 0 0)) _ (heap_alloc_new w2 _) rfl ?_)
    | (go_at_call 20; (with_reducible refine (HR.out _ (HP2.out.below (bAl (bRef _) _))).mono ?_); rintro e w3 ⟨rfl, hp, hb⟩; have HP3 := Lib.hid hp; have HB3 := Lib.hid ((HB2.out.trans (ButB.of_below (b := b) (bAl (bRef w2) _))).trans hb); have hr3 := (hb.block w.heap.size (by simp; omega) (by omega)).trans ((heap_alloc_old w2 _ lt2).trans HR2.out); have hm3 := (hb.block w2.heap.size (by simp) (by omega)).trans (heap_alloc_new w2 _); have HM3 := Lib.hid hm3; have g2 := cell_of_row _ _ 2 _ _ _ hr3; have n0 := cell_of_row _ _ 0 _ _ _ hm3; have n6 := cell_of_row _ _ 6 _ _ _ hm3; have nf : ∀ i, w3.frozen? ⟨w2.heap.size, i, none⟩ = false := (fun i => frozen_of_row _ _ _ _ _ hm3); simp only [List.getElem?_toArray, List.getElem?_cons_zero, List.getElem?_cons_succ] at g2 n0 n6; have lt3 := lt_of_heap hr3; have ne3 : w.heap.size ≠ w2.heap.size := (by omega); have HP3b : Hid (Pr ((w3.setCell ⟨w2.heap.size, 0, none⟩ (.int .i64 10)).setCell ⟨w2.heap.size, 6, none⟩ (.int .i64 x2)) b _) := Lib.hid (hp.setOther hm3 0 _ 6 _); have HB3b := Lib.hid (((HB3.out).setOther (i := 0) (v := .int .i64 10) (g := w2.heap.size) (by have := HB2.out.size; omega)).setOther (i := 6) (v := .int .i64 x2) (g := w2.heap.size) (by have := HB2.out.size; omega)); clear hp hb hr3 hm3)
    | ((with_reducible refine at_loadM ?_); refine wpList_loadM rfl _ rfl w2.heap.size rfl (MC (RespM 10 q 9 2 x2 id port) (.slice none 0 0)) _ (mid_row w3 w2.heap.size q x1 x2 id port HM3.out) rfl ?_)
    | (go_at_call 20; (with_reducible refine (HM.out _ HP3b.out).mono ?_); rintro e w4 ⟨rfl, hp, hb⟩; have HF := Lib.hid hp; have HG := Lib.hid (HB3b.out.trans hb); clear hp hb))
  go_ret
  exact ⟨rfl, HF.out, HG.out⟩

end Go.Proofs.Ytnfoimkiihfalaa
