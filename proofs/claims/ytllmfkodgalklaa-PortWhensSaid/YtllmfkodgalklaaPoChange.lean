/- Package port: Change. -/
import Derived.Test.YtllmfkodgalklaaPoLeft
namespace Go.Proofs.Ytllmfkodgalklaa
open Go.RowKit Go.Joins

theorem pchange_nil (b c : Int) (sp : Option Addr) (sn sc : Nat) (x : Int) (W : World) : Calls Try.prog 14 #[.pointer none, LV b c (.slice sp sn sc), .int .i64 x] W fun e w' => e = .returned (.int .i64 1) ∧ Below W.heap.size W w' := by
  have HB := Lib.hid (bAl (bRef W) (.cells #[.int .i64 b, .int .i64 c, .slice sp sn sc] 24))
  go_enter Try.func14, Try.ntmps14
  go_wp2_with fail
  go_ret
  exact ⟨rfl, HB.out⟩
/-- What turning leaves of the gate's own list. -/
structure Turned (W' : World) (k : Nat) (F : Nat → Prop) (p : PL) (g : GS) (x : Int) : Prop where
  e1 : (g.turn x).b1 = (p.turn x).b1
  e2 : (g.turn x).c1 = (p.turn x).c1
  a1 : TArg W' (g.turn x).s1 (p.turn x).t1
  n1 : 0 < (p.turn x).t1.length → ∀ j, (g.turn x).s1.ownBlock = some j → j ≠ k ∧ ¬ F j
  y1 : 0 < (p.turn x).t1.length → Tag W' (g.turn x).s1
theorem PoS.turned {L : Nat} {W W' : World} {k : Nat} {F : Nat → Prop} {p : PL} {g : GS} (h : PoS L W k F p g) (x : Int) (hb : ButB k W W') : Turned W' k F p g x := by
  have a1 : TArg W' g.s1 p.t1 := h.a1.but hb fun h0 e => (h.n1 h0 _ e).1 rfl
  have a2 : TArg W' g.s2 p.t2 := h.a2.but hb fun h0 e => (h.n2 h0 _ e).1 rfl
  by_cases hd : g.due x
  · have hd2 : p.due x := ⟨h.e6.symm.trans hd.1, by rw [← h.e5]; exact hd.2⟩
    have eg : g.turn x = ⟨g.b2, g.c2, g.s2, 0, 0, .slice none 0 0, 0, false⟩ := if_pos hd
    have ep : p.turn x = ⟨p.b2, p.c2, p.t2, 0, 0, [], 0, false⟩ := if_pos hd2
    exact ⟨by rw [eg, ep]; exact h.e3, by rw [eg, ep]; exact h.e4, by rw [eg, ep]; exact a2, by rw [eg, ep]; exact h.n2, by rw [eg, ep]; exact Tag.but h.y2 hb h.a2 h.n2⟩
  · have hd2 : ¬ p.due x := fun e => hd ⟨h.e6.trans e.1, by rw [h.e5]; exact e.2⟩
    have eg : g.turn x = g := if_neg hd
    have ep : p.turn x = p := if_neg hd2
    exact ⟨by rw [eg, ep]; exact h.e1, by rw [eg, ep]; exact h.e2, by rw [eg, ep]; exact a1, by rw [eg, ep]; exact h.n1, by rw [eg, ep]; exact Tag.but h.y1 hb h.a1 h.n1⟩
/-- What Change leaves. -/
def PL.chg (p : PL) (b c : Int) (ts : List (Int × Int)) (x : Int) : PL := ⟨(p.turn x).b1, (p.turn x).c1, (p.turn x).t1, b, c, ts, (turnV b c ts (max x b)).1, true⟩
theorem turn_bound {b c : Int} {ts : List (Int × Int)} (hz : chkV b c ts = 0) {x : Int} (hx : inNow x) : max x b ≤ (turnV b c ts (max x b)).1 ∧ (turnV b c ts (max x b)).1 < max x b + c := by
  have hg := chk_good hz
  have hgb := gone_bd (b := b) (max x b) hg.c0
  have hT : Tells b c ts (max x b) := ⟨⟨by have := hx.1; omega, by have := hx.2; have := hg.b1; omega⟩, hz⟩
  unfold turnV
  rw [if_pos hT]
  split
  · constructor
    · show max x b ≤ max x b + (c - gone b c (max x b)); omega
    · show max x b + (c - gone b c (max x b)) < max x b + c; omega
  · have := hg.c0
    constructor
    · show max x b ≤ max x b; omega
    · show max x b < max x b + c; omega
theorem PL.Fine.chg {p : PL} (h : p.Fine) {b c : Int} {ts : List (Int × Int)} (hz : chkV b c ts = 0) {x : Int} (hx : inNow x) : (p.chg b c ts x).Fine := by
  have hg := chk_good hz
  have ht := turn_bound hz hx
  have := hx.1
  have := hx.2
  have := hg.b0
  have := hg.b1
  have := hg.c1
  exact ⟨(h.turn x).l1, hg.len, show 0 ≤ (turnV b c ts (max x b)).1 by omega, show (turnV b c ts (max x b)).1 ≤ 4398046511104 by omega⟩
section
variable {w0 W : World} {k L : Nat} {F : Nat → Prop} {p : PL} {s : LS}
set_option maxHeartbeats 1000000 in
theorem pchange_bad (h : PoL w0 W k L F p s) (b c : Int) (sl : Value) (ts : List (Int × Int)) (ht : TArg W sl ts) (hz : chkV b c ts ≠ 0) (x : Int) : Calls Try.prog 14 #[.pointer (some ⟨k, 0, none⟩), LV b c sl, .int .i64 x] W fun e w' => e = .returned (.int .i64 (chkV b c ts)) ∧ Below W.heap.size W w' := by
  have HT := Lib.hid ht
  obtain ⟨sp, sc, rfl⟩ := ht.slice
  have hb0 := bAl (bRef W) (.cells #[.int .i64 b, .int .i64 c, .slice sp ts.length sc] 24)
  have HB0 := Lib.hid (hb0.trans (bDr1 (bRef (W.alloc (.cells #[.int .i64 b, .int .i64 c, .slice sp ts.length sc] 24)) |>.mono (by simp))))
  have HP := Lib.hid (change_bad (k := k) b c (.slice sp ts.length sc) ts x _ (ht.below HB0.out) hz)
  have hq := heap_alloc_one W (.cells #[.int .i64 b, .int .i64 c, .slice sp ts.length sc] 24)
  generalize ts.length = sn at *
  have HB : Hid ((W.alloc (.cells #[.int .i64 b, .int .i64 c, .slice sp sn sc] 24)).drew.cell? ⟨W.heap.size, 0, none⟩ = some (.int .i64 b) ∧ (W.alloc (.cells #[.int .i64 b, .int .i64 c, .slice sp sn sc] 24)).drew.cell? ⟨W.heap.size, 1, none⟩ = some (.int .i64 c) ∧ (W.alloc (.cells #[.int .i64 b, .int .i64 c, .slice sp sn sc] 24)).drew.cell? ⟨W.heap.size, 2, none⟩ = some (.slice sp sn sc)) := Lib.hid ⟨cell_of_row _ _ 0 _ _ _ hq, cell_of_row _ _ 1 _ _ _ hq, cell_of_row _ _ 2 _ _ _ hq⟩
  generalize chkV b c ts = z at *
  clear h hq hb0 ht hz
  go_enter Try.func14, Try.ntmps14
  go_wp2_with fail
  refine wp_region_held_drew (S := fun V => V.cell? ⟨W.heap.size, 0, none⟩ = some (.int .i64 b) ∧ V.cell? ⟨W.heap.size, 1, none⟩ = some (.int .i64 c) ∧ V.cell? ⟨W.heap.size, 2, none⟩ = some (.slice sp sn sc)) (by kernel_rfl) HB.out (fun h0 => ?_)
  refine hTakeS (i := 0) (k := 9) (v := .pointer (some ⟨k, 0, none⟩)) rfl rfl (by kernel_rfl) (by kernel_rfl) (by kernel_rfl) (fun _ _ _ h => h) (yieldsIf_val (by rfl) (by intro W; go_simp)) h0 ?_
  simp only [List.setIfInBounds_toArray, List.set_cons_zero, List.set_cons_succ]
  refine hTakeS (i := 1) (k := 10) (v := .pointer (some ⟨k, 0, none⟩)) rfl rfl (by kernel_rfl) (by kernel_rfl) (by kernel_rfl) (fun _ _ _ h => h) (yieldsIf_val (by rfl) (by intro W; go_simp)) h0 ?_
  simp only [List.setIfInBounds_toArray, List.set_cons_zero, List.set_cons_succ]
  refine hTakeS (i := 2) (k := 11) (v := .pointer (some ⟨k, 0, none⟩)) rfl rfl (by kernel_rfl) (by kernel_rfl) (by kernel_rfl) (fun _ _ _ h => h) (yieldsIf_val (by rfl) (by intro W; go_simp)) h0 ?_
  simp only [List.setIfInBounds_toArray, List.set_cons_zero, List.set_cons_succ]
  refine hTakeS (i := 3) (k := 12) (v := LV b c (.slice sp sn sc)) rfl rfl (by kernel_rfl) (by kernel_rfl) (by kernel_rfl) (fun _ _ _ h => h) (.inl ⟨by rfl, fun W hW => by obtain ⟨b0, b1, b2⟩ := hW; go_simp⟩) h0 ?_
  simp only [List.setIfInBounds_toArray, List.set_cons_zero, List.set_cons_succ]
  refine hTakeS (i := 4) (k := 13) (v := .int .i64 x) rfl rfl (by kernel_rfl) (by kernel_rfl) (by kernel_rfl) (fun _ _ _ h => h) (yieldsIf_val (by rfl) (by intro W; go_simp)) h0 ?_
  simp only [List.setIfInBounds_toArray, List.set_cons_zero, List.set_cons_succ]
  refine hCallR (i := 5) (k := 14) (by kernel_rfl) rfl rfl (by rfl) 40 #[.pointer (some ⟨k, 0, none⟩), LV b c (.slice sp sn sc), .int .i64 x] (by go_simp) (HP.out) ?_
  rintro e w2 ⟨rfl, hb⟩
  have HR := Lib.hid (bTr HB0.out hb)
  have h1 := And.intro ((hb.cell (block_lt_cell h0.1)).trans h0.1) (And.intro ((hb.cell (block_lt_cell h0.2.1)).trans h0.2.1) ((hb.cell (block_lt_cell h0.2.2)).trans h0.2.2))
  clear hb
  refine ⟨_, rfl, h1, ?_⟩
  simp only [List.setIfInBounds_toArray, List.set_cons_zero, List.set_cons_succ]
  refine hTakeS (i := 6) (k := 6) (v := .int .i64 z) rfl rfl (by kernel_rfl) (by kernel_rfl) (by kernel_rfl) (fun _ _ _ h => h) (yieldsIf_val (by rfl) (by intro W; go_simp)) h1 ?_
  simp only [List.setIfInBounds_toArray, List.set_cons_zero, List.set_cons_succ]
  refine wpAnyH_done (by kernel_rfl) ?_ _
  go_wp2_with fail
  go_ret
  exact ⟨rfl, HR.out⟩
set_option maxHeartbeats 1000000 in
theorem pchange_ok (h : PoL w0 W k L F p s) (b c : Int) (sl : Value) (ts : List (Int × Int)) (ht : TArg W sl ts) (hne : 0 < ts.length → sl.ownBlock ≠ some k) (hz : chkV b c ts = 0) (x : Int) (hx : inNow x) : Calls Try.prog 14 #[.pointer (some ⟨k, 0, none⟩), LV b c sl, .int .i64 x] W fun e w' => e = .returned (.int .i64 0) ∧ PLeft w0 W k L F (p.chg b c ts x) s w' := by
  have HT := Lib.hid ht
  obtain ⟨sp, sc, rfl⟩ := ht.slice
  have hb0 := bAl (bRef W) (.cells #[.int .i64 b, .int .i64 c, .slice sp ts.length sc] 24)
  have HB0 := Lib.hid (hb0.trans (bDr1 (bRef (W.alloc (.cells #[.int .i64 b, .int .i64 c, .slice sp ts.length sc] 24)) |>.mono (by simp))))
  have HN := Lib.hid (h.below HB0.out)
  obtain ⟨g, hg⟩ := HN.out.gs
  have HG := Lib.hid hg
  have HZ := Lib.hid hz
  have HX := Lib.hid hx
  have HP := Lib.hid (change_ok hg.gt hg.sl b c (.slice sp ts.length sc) ts x (ht.below HB0.out) hne hz hx.1 hx.2 rfl)
  have hq := heap_alloc_one W (.cells #[.int .i64 b, .int .i64 c, .slice sp ts.length sc] 24)
  have HK := Lib.hid h.klt
  obtain ⟨sn, hsn⟩ : ∃ sn, sn = ts.length := ⟨_, rfl⟩
  have HSN := Lib.hid hsn
  rw [← hsn] at HB0 HN HP HG hq
  rw [← hsn]
  have HB : Hid ((W.alloc (.cells #[.int .i64 b, .int .i64 c, .slice sp sn sc] 24)).drew.cell? ⟨W.heap.size, 0, none⟩ = some (.int .i64 b) ∧ (W.alloc (.cells #[.int .i64 b, .int .i64 c, .slice sp sn sc] 24)).drew.cell? ⟨W.heap.size, 1, none⟩ = some (.int .i64 c) ∧ (W.alloc (.cells #[.int .i64 b, .int .i64 c, .slice sp sn sc] 24)).drew.cell? ⟨W.heap.size, 2, none⟩ = some (.slice sp sn sc)) := Lib.hid ⟨cell_of_row _ _ 0 _ _ _ hq, cell_of_row _ _ 1 _ _ _ hq, cell_of_row _ _ 2 _ _ _ hq⟩
  clear h hq hb0 ht hz hx hne hsn hg
  go_enter Try.func14, Try.ntmps14
  go_wp2_with fail
  refine wp_region_held_drew (S := fun V => V.cell? ⟨W.heap.size, 0, none⟩ = some (.int .i64 b) ∧ V.cell? ⟨W.heap.size, 1, none⟩ = some (.int .i64 c) ∧ V.cell? ⟨W.heap.size, 2, none⟩ = some (.slice sp sn sc)) (by kernel_rfl) HB.out (fun h0 => ?_)
  refine hTakeS (i := 0) (k := 9) (v := .pointer (some ⟨k, 0, none⟩)) rfl rfl (by kernel_rfl) (by kernel_rfl) (by kernel_rfl) (fun _ _ _ h => h) (yieldsIf_val (by rfl) (by intro W; go_simp)) h0 ?_
  simp only [List.setIfInBounds_toArray, List.set_cons_zero, List.set_cons_succ]
  refine hTakeS (i := 1) (k := 10) (v := .pointer (some ⟨k, 0, none⟩)) rfl rfl (by kernel_rfl) (by kernel_rfl) (by kernel_rfl) (fun _ _ _ h => h) (yieldsIf_val (by rfl) (by intro W; go_simp)) h0 ?_
  simp only [List.setIfInBounds_toArray, List.set_cons_zero, List.set_cons_succ]
  refine hTakeS (i := 2) (k := 11) (v := .pointer (some ⟨k, 0, none⟩)) rfl rfl (by kernel_rfl) (by kernel_rfl) (by kernel_rfl) (fun _ _ _ h => h) (yieldsIf_val (by rfl) (by intro W; go_simp)) h0 ?_
  simp only [List.setIfInBounds_toArray, List.set_cons_zero, List.set_cons_succ]
  refine hTakeS (i := 3) (k := 12) (v := LV b c (.slice sp sn sc)) rfl rfl (by kernel_rfl) (by kernel_rfl) (by kernel_rfl) (fun _ _ _ h => h) (.inl ⟨by rfl, fun W hW => by obtain ⟨b0, b1, b2⟩ := hW; go_simp⟩) h0 ?_
  simp only [List.setIfInBounds_toArray, List.set_cons_zero, List.set_cons_succ]
  refine hTakeS (i := 4) (k := 13) (v := .int .i64 x) rfl rfl (by kernel_rfl) (by kernel_rfl) (by kernel_rfl) (fun _ _ _ h => h) (yieldsIf_val (by rfl) (by intro W; go_simp)) h0 ?_
  simp only [List.setIfInBounds_toArray, List.set_cons_zero, List.set_cons_succ]
  refine hCallR (i := 5) (k := 14) (by kernel_rfl) rfl rfl (by rfl) 40 #[.pointer (some ⟨k, 0, none⟩), LV b c (.slice sp sn sc), .int .i64 x] (by go_simp) (HP.out) ?_
  rintro e w2 ⟨p2, cp2, rfl, hm, hta, hgt, hb⟩
  have HM := Lib.hid hm
  have HTA := Lib.hid hta
  have HGT := Lib.hid hgt
  have HBB := Lib.hid hb
  have kc : ∀ (j : Nat) (v : Value), ((W.alloc (.cells #[.int .i64 b, .int .i64 c, .slice sp sn sc] 24)).drew.cell? ⟨W.heap.size, j, none⟩ = some v) → w2.cell? ⟨W.heap.size, j, none⟩ = some v := fun j v hv => (World.cell?_of_block (hb.block W.heap.size (by simp) (by have := HK.out; omega))).trans hv
  have h1 := And.intro (kc _ _ h0.1) (And.intro (kc _ _ h0.2.1) (kc _ _ h0.2.2))
  clear hm hta hgt hb kc
  refine ⟨_, rfl, h1, ?_⟩
  simp only [List.setIfInBounds_toArray, List.set_cons_zero, List.set_cons_succ]
  refine hTakeS (i := 6) (k := 6) (v := .int .i64 0) rfl rfl (by kernel_rfl) (by kernel_rfl) (by kernel_rfl) (fun _ _ _ h => h) (yieldsIf_val (by rfl) (by intro W; go_simp)) h1 ?_
  simp only [List.setIfInBounds_toArray, List.set_cons_zero, List.set_cons_succ]
  refine wpAnyH_done (by kernel_rfl) ?_ _
  go_wp2_with fail
  go_ret
  refine ⟨rfl, PLeft.from HB0.out ?_⟩
  have hT := HG.out.turned x HBB.out
  refine PLeft.gate HN.out HBB.out (g' := ⟨(g.turn x).b1, (g.turn x).c1, (g.turn x).s1, b, c, .slice p2 sn cp2, (turnV b c ts (max x b)).1, true⟩) ⟨?_, ⟨(HG.out.sl.turn x).1, _, _, _, rfl⟩, hT.e1, hT.e2, rfl, rfl, rfl, rfl, hT.a1, ?_, hT.n1, ?_, hT.y1, fun h0 => HM.out.tag (by rw [HSN.out]; exact h0)⟩ (HN.out.fine.chg HZ.out HX.out)
  · exact HGT.out
  · exact HTA.out
  · intro h0 j hj
    have := HM.out.own (by rw [HSN.out]; exact h0) hj
    obtain ⟨sl, hl⟩ := HN.out.ln.ln
    have hk := HN.out.klt
    exact ⟨by omega, fun e => by have := hl.top j e; omega⟩
end

end Go.Proofs.Ytllmfkodgalklaa
