/- Package agenda at int: New, Len, Put, Next. -/
import Derived.Test.YtnddiobjojnckaaAgOpsI
namespace Go.Proofs.Ytnddiobjojnckaa
open Go.RowKit Go.Joins
namespace AgI

section
variable {B : Nat} {w : World} {g : Nat} {now last : Int} {l : List Ent}
theorem Ag.cells (h : Ag B w g now last l) : ∃ v, w.cell? ⟨g, 0, none⟩ = some (.int .i64 now) ∧ w.cell? ⟨g, 1, none⟩ = some (.int .i64 last) ∧ w.cell? ⟨g, 2, none⟩ = some v ∧ w.frozen? ⟨g, 0, none⟩ = false ∧ w.frozen? ⟨g, 1, none⟩ = false ∧ QSt B w v l := by
  obtain ⟨_, v, h1, h2⟩ := h
  exact ⟨v, cell_of_row _ _ _ _ _ _ h1, cell_of_row _ _ _ _ _ _ h1, cell_of_row _ _ _ _ _ _ h1, frozen_of_row _ _ _ _ _ h1, frozen_of_row _ _ _ _ _ h1, h2⟩
theorem Ag.set (h : Ag B w g now last l) (i : Nat) (hi : i = 0 ∨ i = 1) (x : Int) : Ag B (w.setCell ⟨g, i, none⟩ (.int .i64 x)) g (if i = 0 then x else now) (if i = 1 then x else last) l ∧ Below B w (w.setCell ⟨g, i, none⟩ (.int .i64 x)) ∧ KeptT [51, 49] w (w.setCell ⟨g, i, none⟩ (.int .i64 x)) := by
  obtain ⟨h0, v, h1, h2⟩ := h
  have k := kept_set h1 i (.int .i64 x) [51, 49] (by simp)
  have k1 := kept_set h1 i (.int .i64 x) [49] (by simp)
  have hs := heap_setCell_same w g i _ _ (.int .i64 x) h1
  refine ⟨⟨h0, v, ?_, ⟨h2.1.1, ?_⟩, fun e he => (h2.2 e he).kept k notin2⟩, bSet ⟨rfl, rfl, rfl, Nat.le_refl _, fun _ _ => rfl⟩ h0 _, k⟩
  · rcases hi with rfl | rfl
    · exact hs
    · exact hs
  · rcases h2.1.2 with h3 | ⟨r, cap, cur, e, h4, hg, h5⟩
    · exact .inl h3
    · exact .inr ⟨r, cap, cur, e, h4, k1 _ _ hg (fun cs t fr e2 => by injection e2 with _ e2 _; rw [← e2]; decide), h5⟩
end

theorem new_any (w : World) : Calls Try.prog 5 #[] w fun e w' => ∃ g, e = .returned (.pointer (some ⟨g, 0, none⟩)) ∧ Ag w.heap.size w' g 0 0 [] ∧ Below w.heap.size w w' := by
  go_enter Try.func5, Try.ntmps5
  go_wp2_with fail
  go_ret
  exact ⟨w.heap.size, rfl, ⟨Nat.le_refl _, _, heap_alloc_new w _, ⟨rfl, .inl ⟨rfl, rfl⟩⟩, fun e he => by simp at he⟩, bAl (bRef w) _⟩

theorem len_nil (w : World) : Calls Try.prog 11 #[.pointer none] w fun e w' => e = .returned (.int .i64 0) ∧ Below w.heap.size w w' := by
  go_enter Try.func11, Try.ntmps11
  go_wp2_with fail
  go_ret
  exact ⟨rfl, bRef w⟩
theorem alen_any {B : Nat} {w : World} {g : Nat} {now last : Int} {l : List Ent} (h : Ag B w g now last l) : Calls Try.prog 11 #[.pointer (some ⟨g, 0, none⟩)] w fun e w' => e = .returned (.int .i64 (l.length : Int)) ∧ Below w.heap.size w w' := by
  obtain ⟨v, c0, c1, c2, _, _, hq⟩ := h.cells
  obtain ⟨p, c, rfl⟩ := hq.slice
  clear h hq
  go_enter Try.func11, Try.ntmps11
  go_wp2_with fail
  go_ret
  exact ⟨rfl, bRef w⟩

theorem put_nil (x y : Int) (w : World) : Calls Try.prog 6 #[.pointer none, .int .i64 x, .int .i64 y] w fun e w' => e = .returned (.tuple #[.int .i64 0, .int .i64 1]) ∧ Below w.heap.size w w' := by
  go_enter Try.func6, Try.ntmps6
  go_wp2_with fail
  go_ret2
  exact ⟨rfl, bRef w⟩
theorem put_far {g : Nat} (x y : Int) (w : World) (hx : 1099511627776 < x) : Calls Try.prog 6 #[.pointer (some ⟨g, 0, none⟩), .int .i64 x, .int .i64 y] w fun e w' => e = .returned (.tuple #[.int .i64 0, .int .i64 1]) ∧ Below w.heap.size w w' := by
  have d : decide (1099511627776 < x) = true := decide_eq_true hx
  go_enter Try.func6, Try.ntmps6
  go_wp2_with fail
  go_ret2
  exact ⟨rfl, bRef w⟩
theorem put_early {B : Nat} {w : World} {g : Nat} {now last : Int} {l : List Ent} (h : Ag B w g now last l) (x y : Int) (hx : x ≤ 1099511627776) (hy : x < now) : Calls Try.prog 6 #[.pointer (some ⟨g, 0, none⟩), .int .i64 x, .int .i64 y] w fun e w' => e = .returned (.tuple #[.int .i64 0, .int .i64 31]) ∧ Below w.heap.size w w' := by
  obtain ⟨v, c0, c1, c2, _, _, hq⟩ := h.cells
  have d : decide (1099511627776 < x) = false := decide_eq_false (by omega)
  have d2 : decide (x < now) = true := decide_eq_true hy
  clear h hq
  go_enter Try.func6, Try.ntmps6
  go_wp2_with fail
  go_ret2
  exact ⟨rfl, bRef w⟩
theorem put_full {B : Nat} {w : World} {g : Nat} {now last : Int} {l : List Ent} (h : Ag B w g now last l) (x y : Int) (hx : x ≤ 1099511627776) (hy : now ≤ x) (hl : l.length = 8192) : Calls Try.prog 6 #[.pointer (some ⟨g, 0, none⟩), .int .i64 x, .int .i64 y] w fun e w' => e = .returned (.tuple #[.int .i64 0, .int .i64 30]) ∧ Below w.heap.size w w' := by
  obtain ⟨v, c0, c1, c2, _, _, hq⟩ := h.cells
  obtain ⟨p, c, rfl⟩ := hq.slice
  rw [hl] at c2
  have d : decide (1099511627776 < x) = false := decide_eq_false (by omega)
  have d2 : decide (x < now) = false := decide_eq_false (by omega)
  clear h hq
  go_enter Try.func6, Try.ntmps6
  go_wp2_with fail
  go_ret2
  exact ⟨rfl, bRef w⟩
def PutOk (B : Nat) (w : World) (g : Nat) (now last : Int) (l : List Ent) (x y : Int) (e : Ending) (w' : World) : Prop :=
  e = .returned (.tuple #[.int .i64 (last + 1), .int .i64 0]) ∧ ∃ b l', Ag B w' g now (last + 1) l' ∧ Hp l' l'.length ∧ l'.Perm (l ++ [⟨b, x, last + 1, y⟩]) ∧ Below B w w' ∧ KeptT [51, 49] w w'

set_option maxHeartbeats 1000000 in
theorem put_ok {B : Nat} {w : World} {g : Nat} {now last : Int} {l : List Ent} (h : Ag B w g now last l) (hh : Hp l l.length) (x y : Int) (hx : x ≤ 1099511627776) (hy : now ≤ x) (hl : l.length < 8192) (h0 : 0 ≤ last) (h1 : last ≤ 1099511627776) :
    Calls Try.prog 6 #[.pointer (some ⟨g, 0, none⟩), .int .i64 x, .int .i64 y] w (PutOk B w g now last l x y) := by
  obtain ⟨v, c0, c1, c2, f0, f1, hq⟩ := h.cells
  obtain ⟨p, c, rfl⟩ := hq.slice
  have d : decide (1099511627776 < x) = false := decide_eq_false (by omega)
  have d2 : decide (x < now) = false := decide_eq_false (by omega)
  have d3 : ((l.length : Int) == 8192) = false := by rw [beq_eq_false_iff_ne]; omega
  have ew : wrap64 (last + 1) = last + 1 := by unfold wrap64; omega
  have hS := h.set 1 (.inr rfl) (last + 1)
  simp only [show ¬ (1 : Nat) = 0 by decide, if_false, if_true] at hS
  have HS := Lib.hid hS
  have HH := Lib.hid hh
  have HL := Lib.hid hl
  generalize l.length = n at c2 d3
  obtain ⟨W, hW⟩ : ∃ W, W = w.setCell ⟨g, 1, none⟩ (.int .i64 (last + 1)) := ⟨_, rfl⟩
  rw [← hW] at HS
  have HW := Lib.hid hW
  have cW : W.cell? ⟨g, 1, none⟩ = some (.int .i64 (last + 1)) := HS.out.1.cells.choose_spec.2.1
  have hE : EOk B (W.alloc (.cells #[.int .i64 x, .int .i64 (last + 1), .int .i64 y] 53)).drew ⟨W.heap.size, x, last + 1, y⟩ := ⟨HS.out.1.lt, heap_alloc_new W _⟩
  have hbW : Below W.heap.size W (W.alloc (.cells #[.int .i64 x, .int .i64 (last + 1), .int .i64 y] 53)).drew := bDrew (bAl (bRef W) _)
  have HB := Lib.hid hbW
  have HP := Lib.hid (put_any (HS.out.1.below hbW) HH.out hE (by have := HL.out; omega))
  clear h hh hq hl hS hW hE hbW
  go_enter Try.func6, Try.ntmps6
  go_upto_region 8 with fail
  rw [← HW.out]
  go_region_with (go_at_call 15; (with_reducible refine HP.out.mono ?_); rintro e w2 ⟨rfl, l', hA, hp, hm, hb, hk⟩; have x1 := hA.cells.choose_spec.2.1; have HA := Lib.hid hA; have HP2 := Lib.hid hp; have HM := Lib.hid hm; have HB2 := Lib.hid hb; have HK2 := Lib.hid hk; clear hA hp hm hb hk)
  all_goals go_wp2_with fail
  all_goals go_ret2
  all_goals exact ⟨rfl, W.heap.size, l', HA.out, HP2.out, HM.out, HS.out.2.1.trans ((HB.out.mono HS.out.1.lt).trans HB2.out), HS.out.2.2.trans ((KeptT.of_below HB.out).trans HK2.out)⟩

/-- Next: nothing comes up to there. -/
theorem next_nil (x : Int) (w : World) : Calls Try.prog 9 #[.pointer none, .int .i64 x] w fun e w' => e = .returned (.tuple #[.int .i64 0, .int .i64 0, .int .i64 0, .bool false]) ∧ Below w.heap.size w w' := by
  have H := Lib.hid (len_nil w)
  go_enter Try.func9, Try.ntmps9
  go_wp2_with (go_at_call 11; (with_reducible refine H.out.mono ?_); rintro e w1 ⟨rfl, hb⟩; have HB := Lib.hid hb; clear hb)
  exact bodyPost_ret (v := .tuple #[.int .i64 0, .int .i64 0, .int .i64 0, .bool false]) (by simp [results, Try.results9, go_sem]) rfl ⟨rfl, HB.out⟩
theorem next_empty {B : Nat} {w : World} {g : Nat} {now last : Int} (h : Ag B w g now last []) (x : Int) : Calls Try.prog 9 #[.pointer (some ⟨g, 0, none⟩), .int .i64 x] w fun e w' => e = .returned (.tuple #[.int .i64 0, .int .i64 0, .int .i64 0, .bool false]) ∧ Below w.heap.size w w' := by
  have H := Lib.hid (alen_any h)
  clear h
  go_enter Try.func9, Try.ntmps9
  go_wp2_with (go_at_call 11; (with_reducible refine H.out.mono ?_); rintro e w1 ⟨rfl, hb⟩; have HB := Lib.hid hb; clear hb)
  exact bodyPost_ret (v := .tuple #[.int .i64 0, .int .i64 0, .int .i64 0, .bool false]) (by simp [results, Try.results9, go_sem]) rfl ⟨rfl, HB.out⟩
theorem next_later {B : Nat} {w : World} {g : Nat} {now last : Int} {l : List Ent} (h : Ag B w g now last l) (hl : 0 < l.length) (x : Int) (hx : x < (el l 0).at_) : Calls Try.prog 9 #[.pointer (some ⟨g, 0, none⟩), .int .i64 x] w fun e w' => e = .returned (.tuple #[.int .i64 0, .int .i64 0, .int .i64 0, .bool false]) ∧ Below w.heap.size w w' := by
  have H := Lib.hid (alen_any h)
  obtain ⟨v, c0, c1, c2, f0, f1, hq⟩ := h.cells
  obtain ⟨r, cap, cur, rfl, h1, hg, hn, hm, hs, ht⟩ := hq.row hl
  have k1 := row_cell hg ht hl
  have k2 := (hq.2 _ (el_mem hl)).cells.1
  have d1 : ((l.length : Int) == 0) = false := by rw [beq_eq_false_iff_ne]; omega
  have d2 : decide (x < (el l 0).at_) = true := decide_eq_true hx
  have d3 : decide (0 < (l.length : Int)) = true := decide_eq_true (by omega)
  have l2 : g < w.heap.size := World.block_lt_of_cell? _ _ c2
  have l3 : r < w.heap.size := lt_of_heap hg
  have l4 : (el l 0).blk < w.heap.size := lt_of_heap (hq.2 _ (el_mem hl)).2
  generalize (el l 0).at_ = a at *
  generalize (el l 0).blk = b at *
  generalize l.length = n at *
  have C2 := Lib.hid c2
  have K1 := Lib.hid k1
  have K2 := Lib.hid k2
  clear h hq hg ht c0 c1 c2 f0 f1 k1 k2 hs hx
  go_enter Try.func9, Try.ntmps9
  go_wp2_with (go_at_call 11; (with_reducible refine H.out.mono ?_); rintro e w1 ⟨rfl, hb⟩; have HB := Lib.hid hb; have q2 := (hb.cell l2).trans C2.out; have q3 := (hb.cell l3).trans K1.out; have q4 := (hb.cell l4).trans K2.out; clear hb)
  exact bodyPost_ret (v := .tuple #[.int .i64 0, .int .i64 0, .int .i64 0, .bool false]) (by simp [results, Try.results9, go_sem]) rfl ⟨rfl, HB.out⟩
def NextOk (B : Nat) (w : World) (g : Nat) (last : Int) (l : List Ent) (x : Ent) (e : Ending) (w' : World) : Prop :=
  e = .returned (.tuple #[.int .i64 x.at_, .int .i64 x.turn, .int .i64 x.what, .bool true]) ∧ ∃ l', Ag B w' g x.at_ last l' ∧ Hp l' l'.length ∧ (x :: l').Perm l ∧ Below B w w' ∧ KeptT [51, 49] w w'

set_option maxHeartbeats 1000000 in
theorem next_ok {B : Nat} {w : World} {g : Nat} {now last : Int} {l : List Ent} (h : Ag B w g now last l) (hh : Hp l l.length) (hl : 0 < l.length) (hl2 : l.length ≤ 100000) (x : Int) (hx : (el l 0).at_ ≤ x) : Calls Try.prog 9 #[.pointer (some ⟨g, 0, none⟩), .int .i64 x] w (NextOk B w g last l (el l 0)) := by
  have H := Lib.hid (alen_any h)
  have HA := Lib.hid h
  obtain ⟨v, c0, c1, c2, f0, f1, hq⟩ := h.cells
  obtain ⟨r, cap, cur, rfl, h1, hg, hn, hm, hs, ht⟩ := hq.row hl
  have k1 := row_cell hg ht hl
  have k2 := (hq.2 _ (el_mem hl)).cells.1
  have d1 : ((l.length : Int) == 0) = false := by rw [beq_eq_false_iff_ne]; omega
  have d2 : decide (x < (el l 0).at_) = false := decide_eq_false (by omega)
  have d3 : decide (0 < (l.length : Int)) = true := decide_eq_true (by omega)
  have l2 : g < w.heap.size := World.block_lt_of_cell? _ _ c2
  have l3 : r < w.heap.size := lt_of_heap hg
  have l4 : (el l 0).blk < w.heap.size := lt_of_heap (hq.2 _ (el_mem hl)).2
  have HT : Hid (∀ w1, Below w.heap.size w w1 → Calls Try.prog 18 #[.pointer (some ⟨g, 2, none⟩), .int .i64 0] w1 (TakePost B w1 g now last l 0 id)) := Lib.hid (fun w1 hb => takeFrom_any (i := 0) (h.below hb) hh hl2 hl)
  obtain ⟨x0, hx0⟩ : ∃ x0, el l 0 = x0 := ⟨_, rfl⟩
  rw [hx0] at k1 k2 d2 l4 ⊢
  obtain ⟨b, a, t, y⟩ := x0
  have HX := Lib.hid hx0
  generalize hln : l.length = n at *
  have C2 := Lib.hid c2
  have K1 := Lib.hid k1
  have K2 := Lib.hid k2
  clear h hq hg ht c0 c1 c2 f0 f1 k1 k2 hs hx hx0 hh hln
  go_enter Try.func9, Try.ntmps9
  go_wp2_with (first
    | (go_at_call 11; (with_reducible refine H.out.mono ?_); rintro e w1 ⟨rfl, hb⟩; have HB := Lib.hid hb; have q2 := (hb.cell l2).trans C2.out; have q3 := (hb.cell l3).trans K1.out; have q4 := (hb.cell l4).trans K2.out; clear hb)
    | (go_at_call 18; (with_reducible refine (HT.out _ HB.out).mono ?_); rintro e w2 ⟨rfl, l', hA, hp, hm, hE, hb, hk⟩; rw [HX.out] at hE hm ⊢; have HA2 := Lib.hid hA; have HP2 := Lib.hid hp; have HM := Lib.hid hm; have HE := Lib.hid hE; have HB2 := Lib.hid ((HB.out.mono HA.out.lt).trans hb); have HK2 := Lib.hid ((KeptT.of_below (ts := [51, 49]) HB.out).trans hk); have p1 := hE.cells.1; have p2 := hA.cells.choose_spec.1; have p3 := hA.cells.choose_spec.2.2.2.1; clear hA hp hm hE hb hk))
  have hS := HA2.out.set 0 (.inl rfl) a
  simp only [if_true, show ¬ (0 : Nat) = 1 by decide, if_false] at hS
  have hE2 := HE.out.kept hS.2.2 notin2
  have r1 := hE2.cells.1
  have r2 := hE2.cells.2.1
  have r3 := hE2.cells.2.2
  have HS := Lib.hid hS
  clear hS hE2
  go_quiet (fail)
  all_goals go_wp2_with fail
  all_goals exact bodyPost_ret (v := .tuple #[.int .i64 a, .int .i64 t, .int .i64 y, .bool true]) (by simp [results, Try.results9, go_sem]) rfl ⟨rfl, l', HS.out.1.below (bDr (bRef _) _), HP2.out, HM.out, bDr (HB2.out.trans HS.out.2.1) _, HK2.out.trans HS.out.2.2⟩

end AgI
end Go.Proofs.Ytnddiobjojnckaa
