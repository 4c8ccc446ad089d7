/- Package sieve: one stream with a gate: pass. -/
import Derived.Test.YtpdfgdjomlogbabSvClone
import Derived.Test.YtpdfgdjomlogbabSvSum
import Derived.Test.YtpdfgdjomlogbabSvHand
namespace Go.Proofs.Ytpdfgdjomlogbab
open Go.RowKit Go.Joins

/-- A sieve of one stream, and one list of gates. -/
structure NG (w : World) (b g cap h hc : Nat) (f : Fl) (B C : Int) (sl : Value) (ts : List (Int × Int)) (W : World) : Prop where
  box : SBox W b (.slice (some ⟨g, 0, none⟩) 1 cap) (.slice (some ⟨h, 0, none⟩) 1 hc) (.slice none 0 0) 0
  row : W.ownsRow (b + 1) 58 21 (.slice (some ⟨g, 0, none⟩) 1 cap) 1 (fv [f])
  gate : W.cell? ⟨h, 0, none⟩ = some (.int .i64 B) ∧ W.cell? ⟨h, 1, none⟩ = some (.int .i64 C) ∧ W.cell? ⟨h, 2, none⟩ = some sl
  arg : TArg W sl ts
  hlt : h < W.heap.size
  ne : h ≠ b ∧ h ≠ g ∧ ∀ k, sl.ownBlock = some k → k ≠ b ∧ k ≠ g
  caps : 1 ≤ cap ∧ 1 ≤ hc
  bel : Below w.heap.size w W
  bb : w.heap.size ≤ b
section
variable {w W W' : World} {b g cap h hc : Nat} {f : Fl} {B C : Int} {sl : Value} {ts : List (Int × Int)}
theorem NG.below (n : NG w b g cap h hc f B C sl ts W) (hb : Below W.heap.size W W') : NG w b g cap h hc f B C sl ts W' :=
  ⟨n.box.below hb, row_keep n.row fun k hk => hb.block k (row_lt n.row hk).2, ⟨(hb.cell n.hlt).trans n.gate.1, (hb.cell n.hlt).trans n.gate.2.1, (hb.cell n.hlt).trans n.gate.2.2⟩, n.arg.below hb, Nat.lt_of_lt_of_le n.hlt hb.size, n.ne, n.caps, bTr n.bel hb, n.bb⟩
theorem NG.at (n : NG w b g cap h hc f B C sl ts W) (j : Nat) (hj : j < 21) : W.cell? ⟨g, j, none⟩ = (FA f).toList[j]? := by
  have := n.row.cellAt j (by omega)
  rw [this]
  show ((FA f).toList ++ [])[j]? = _
  rw [List.append_nil]
theorem NG.fz (n : NG w b g cap h hc f B C sl ts W) (j : Nat) : W.frozen? ⟨g, j, none⟩ = false := n.row.frozenAt j
end
def gateV (B C : Int) (ts : List (Int × Int)) (x : Int) : Int := if stateV B C ts x % 2 = 0 then 3 else 0
/-- What the drawn region reads. -/
structure PG (b g h hc : Nat) (B C : Int) (sl : Value) (W0 W : World) : Prop where
  c1 : W.cell? ⟨b, 1, none⟩ = some (.slice (some ⟨h, 0, none⟩) 1 hc)
  c9 : W.cell? ⟨g, 9, none⟩ = some (.int .i64 0)
  c13 : W.cell? ⟨g, 13, none⟩ = some (.int .i64 (-1))
  g0 : W.cell? ⟨h, 0, none⟩ = some (.int .i64 B)
  g1 : W.cell? ⟨h, 1, none⟩ = some (.int .i64 C)
  g2 : W.cell? ⟨h, 2, none⟩ = some sl
  bel : Below W0.heap.size W0 W
theorem cell_lt {W : World} {a : Addr} {v : Value} (h : W.cell? a = some v) : a.block < W.heap.size := World.block_lt_of_cell? _ _ h
theorem PG.below {b g h hc : Nat} {B C : Int} {sl : Value} {W0 W W' : World} (p : PG b g h hc B C sl W0 W) (hb : Below W.heap.size W W') : PG b g h hc B C sl W0 W' :=
  ⟨(hb.cell (cell_lt p.c1)).trans p.c1, (hb.cell (cell_lt p.c9)).trans p.c9, (hb.cell (cell_lt p.c13)).trans p.c13, (hb.cell (cell_lt p.g0)).trans p.g0, (hb.cell (cell_lt p.g1)).trans p.g1, (hb.cell (cell_lt p.g2)).trans p.g2, bTr p.bel hb⟩
set_option maxHeartbeats 1000000 in
theorem pass_gate {w W : World} {b g cap h hc : Nat} {f : Fl} {B C : Int} {sl : Value} {ts : List (Int × Int)} (n : NG w b g cap h hc f B C sl ts W) (h0 : f.bl = false) (h1 : f.st.max = 0) (h2 : f.st.gate = 0) (h3 : f.st.rate = -1) (now size : Int) :
    Calls Try.prog 19 #[.pointer (some ⟨b, 0, none⟩), .pointer (some ⟨g, 0, none⟩), .int .i64 now, .int .i64 size] W fun e w' => e = .returned (.tuple #[.bool false, .int .i64 (gateV B C ts now)]) ∧ Below W.heap.size W w' := by
  have a9 : W.cell? ⟨g, 9, none⟩ = some (.int .i64 f.st.gate) := n.at 9 (by omega)
  have a11 : W.cell? ⟨g, 11, none⟩ = some (.int .i64 f.st.max) := n.at 11 (by omega)
  have a13 : W.cell? ⟨g, 13, none⟩ = some (.int .i64 f.st.rate) := n.at 13 (by omega)
  have a14 : W.cell? ⟨g, 14, none⟩ = some (.bool f.bl) := n.at 14 (by omega)
  rw [h0] at a14
  rw [h1] at a11
  rw [h2] at a9
  rw [h3] at a13
  have b1 := cell_of_row _ _ 1 _ _ _ n.box
  obtain ⟨g0, g1, g2⟩ := n.gate
  have hcap := n.caps.2
  have HS := Lib.hid (fun W' (hb : Below W.heap.size W W') => state_any B C sl ts now W' (n.arg.below hb))
  have HPG : Hid (PG b g h hc B C sl W W) := Lib.hid ⟨b1, a9, a13, g0, g1, g2, bRef W⟩
  unfold gateV
  obtain ⟨q, hq⟩ : ∃ q, stateV B C ts now = q := ⟨_, rfl⟩
  rw [hq] at HS ⊢
  have ha := and_one q
  clear n h0 h1 h2 h3 hq
  by_cases hm : q % 2 = 0
  · rw [hm] at ha
    rw [if_pos hm]
    clear hm
    go_enter Try.func19, Try.ntmps19
    go_wp2_with fail
    have H0 := HPG.out.below (bRef _).drew
    refine wp_region_held_drew (S := PG b g h hc B C sl W) (by kernel_rfl) H0 (fun _ => ?_)
    refine hTake (i := 0) (k := 42) (v := .pointer (some ⟨g, 0, none⟩)) rfl rfl (by kernel_rfl) (by kernel_rfl) (by kernel_rfl) (fun _ _ _ h => h) (yieldsIf_val (by rfl) (by intro W; go_simp)) H0 ?_
    simp only [List.setIfInBounds_toArray, List.set_cons_zero, List.set_cons_succ]
    refine hTake (i := 1) (k := 43) (v := .pointer (some ⟨g, 0, none⟩)) rfl rfl (by kernel_rfl) (by kernel_rfl) (by kernel_rfl) (fun _ _ _ h => h) (yieldsIf_val (by rfl) (by intro W; go_simp)) H0 ?_
    simp only [List.setIfInBounds_toArray, List.set_cons_zero, List.set_cons_succ]
    refine hTake (i := 2) (k := 44) (v := .pointer (some ⟨g, 0, none⟩)) rfl rfl (by kernel_rfl) (by kernel_rfl) (by kernel_rfl) (fun _ _ _ h => h) (yieldsIf_val (by rfl) (by intro W; go_simp)) H0 ?_
    simp only [List.setIfInBounds_toArray, List.set_cons_zero, List.set_cons_succ]
    refine hTake (i := 3) (k := 45) (v := .pointer (some ⟨g, 9, none⟩)) rfl rfl (by kernel_rfl) (by kernel_rfl) (by kernel_rfl) (fun _ _ _ h => h) (yieldsIf_val (by rfl) (by intro W; go_simp)) H0 ?_
    simp only [List.setIfInBounds_toArray, List.set_cons_zero, List.set_cons_succ]
    refine hTake (i := 4) (k := 46) (v := .int .i64 0) rfl rfl (by kernel_rfl) (by kernel_rfl) (by kernel_rfl) (fun _ _ _ h => h) (.inl ⟨by rfl, fun W hW => by obtain ⟨c1, c9, c13, g0, g1, g2, bb⟩ := hW; go_simp⟩) H0 ?_
    simp only [List.setIfInBounds_toArray, List.set_cons_zero, List.set_cons_succ]
    refine hTake (i := 5) (k := 47) (v := .bool true) rfl rfl (by kernel_rfl) (by kernel_rfl) (by kernel_rfl) (fun _ _ _ h => h) (yieldsIf_val (by rfl) (by intro W; go_simp)) H0 ?_
    simp only [List.setIfInBounds_toArray, List.set_cons_zero, List.set_cons_succ]
    refine hTake (i := 6) (k := 48) (v := .bool true) rfl rfl (by kernel_rfl) (by kernel_rfl) (by kernel_rfl) (fun _ _ _ h => h) (yieldsIf_val (by rfl) (by intro W; go_simp)) H0 ?_
    simp only [List.setIfInBounds_toArray, List.set_cons_zero, List.set_cons_succ]
    refine hTake (i := 7) (k := 49) (v := .pointer (some ⟨b, 0, none⟩)) rfl rfl (by kernel_rfl) (by kernel_rfl) (by kernel_rfl) (fun _ _ _ h => h) (yieldsIf_val (by rfl) (by intro W; go_simp)) H0 ?_
    simp only [List.setIfInBounds_toArray, List.set_cons_zero, List.set_cons_succ]
    refine hTake (i := 8) (k := 50) (v := .pointer (some ⟨b, 0, none⟩)) rfl rfl (by kernel_rfl) (by kernel_rfl) (by kernel_rfl) (fun _ _ _ h => h) (yieldsIf_val (by rfl) (by intro W; go_simp)) H0 ?_
    simp only [List.setIfInBounds_toArray, List.set_cons_zero, List.set_cons_succ]
    refine hTake (i := 9) (k := 51) (v := .pointer (some ⟨b, 1, none⟩)) rfl rfl (by kernel_rfl) (by kernel_rfl) (by kernel_rfl) (fun _ _ _ h => h) (yieldsIf_val (by rfl) (by intro W; go_simp)) H0 ?_
    simp only [List.setIfInBounds_toArray, List.set_cons_zero, List.set_cons_succ]
    refine hTake (i := 10) (k := 52) (v := .slice (some ⟨h, 0, none⟩) 1 hc) rfl rfl (by kernel_rfl) (by kernel_rfl) (by kernel_rfl) (fun _ _ _ h => h) (.inl ⟨by rfl, fun W hW => by obtain ⟨c1, c9, c13, g0, g1, g2, bb⟩ := hW; go_simp⟩) H0 ?_
    simp only [List.setIfInBounds_toArray, List.set_cons_zero, List.set_cons_succ]
    refine hTake (i := 11) (k := 53) (v := .pointer (some ⟨g, 0, none⟩)) rfl rfl (by kernel_rfl) (by kernel_rfl) (by kernel_rfl) (fun _ _ _ h => h) (yieldsIf_val (by rfl) (by intro W; go_simp)) H0 ?_
    simp only [List.setIfInBounds_toArray, List.set_cons_zero, List.set_cons_succ]
    refine hTake (i := 12) (k := 54) (v := .pointer (some ⟨g, 0, none⟩)) rfl rfl (by kernel_rfl) (by kernel_rfl) (by kernel_rfl) (fun _ _ _ h => h) (yieldsIf_val (by rfl) (by intro W; go_simp)) H0 ?_
    simp only [List.setIfInBounds_toArray, List.set_cons_zero, List.set_cons_succ]
    refine hTake (i := 13) (k := 55) (v := .pointer (some ⟨g, 0, none⟩)) rfl rfl (by kernel_rfl) (by kernel_rfl) (by kernel_rfl) (fun _ _ _ h => h) (yieldsIf_val (by rfl) (by intro W; go_simp)) H0 ?_
    simp only [List.setIfInBounds_toArray, List.set_cons_zero, List.set_cons_succ]
    refine hTake (i := 14) (k := 56) (v := .pointer (some ⟨g, 9, none⟩)) rfl rfl (by kernel_rfl) (by kernel_rfl) (by kernel_rfl) (fun _ _ _ h => h) (yieldsIf_val (by rfl) (by intro W; go_simp)) H0 ?_
    simp only [List.setIfInBounds_toArray, List.set_cons_zero, List.set_cons_succ]
    refine hTake (i := 15) (k := 57) (v := .int .i64 0) rfl rfl (by kernel_rfl) (by kernel_rfl) (by kernel_rfl) (fun _ _ _ h => h) (.inl ⟨by rfl, fun W hW => by obtain ⟨c1, c9, c13, g0, g1, g2, bb⟩ := hW; go_simp⟩) H0 ?_
    simp only [List.setIfInBounds_toArray, List.set_cons_zero, List.set_cons_succ]
    refine hTake (i := 16) (k := 58) (v := .pointer (some ⟨h, 0, none⟩)) rfl rfl (by kernel_rfl) (by kernel_rfl) (by kernel_rfl) (fun _ _ _ h => h) (yieldsIf_val (by rfl) (by intro W; go_simp)) H0 ?_
    simp only [List.setIfInBounds_toArray, List.set_cons_zero, List.set_cons_succ]
    refine hTake (i := 17) (k := 59) (v := LV B C sl) rfl rfl (by kernel_rfl) (by kernel_rfl) (by kernel_rfl) (fun _ _ _ h => h) (.inl ⟨by rfl, fun W hW => by obtain ⟨c1, c9, c13, g0, g1, g2, bb⟩ := hW; go_simp⟩) H0 ?_
    simp only [List.setIfInBounds_toArray, List.set_cons_zero, List.set_cons_succ]
    refine hTake (i := 18) (k := 60) (v := .int .i64 now) rfl rfl (by kernel_rfl) (by kernel_rfl) (by kernel_rfl) (fun _ _ _ h => h) (yieldsIf_val (by rfl) (by intro W; go_simp)) H0 ?_
    simp only [List.setIfInBounds_toArray, List.set_cons_zero, List.set_cons_succ]
    refine hCall (i := 19) (k := 61) (by kernel_rfl) rfl rfl (by rfl) 13 #[LV B C sl, .int .i64 now] (by intro W; go_simp) (.int .i64 q) (fun W3 hW => (HS.out W3 hW.bel).mono fun e W4 hh => ⟨hh.1, hW.below hh.2⟩) H0 (fun W1 H1r => ?_)
    simp only [List.setIfInBounds_toArray, List.set_cons_zero, List.set_cons_succ]
    refine hTake (i := 20) (k := 62) (v := .int .i64 0) rfl rfl (by kernel_rfl) (by kernel_rfl) (by kernel_rfl) (fun _ _ _ h => h) (yieldsIf_val (by rfl) (by intro W; go_simp)) H1r ?_
    simp only [List.setIfInBounds_toArray, List.set_cons_zero, List.set_cons_succ]
    refine hTake (i := 21) (k := 63) (v := .bool true) rfl rfl (by kernel_rfl) (by kernel_rfl) (by kernel_rfl) (fun _ _ _ h => h) (yieldsIf_val (by rfl) (by intro W; go_simp)) H1r ?_
    simp only [List.setIfInBounds_toArray, List.set_cons_zero, List.set_cons_succ]
    refine hTake (i := 22) (k := 64) (v := .bool true) rfl rfl (by kernel_rfl) (by kernel_rfl) (by kernel_rfl) (fun _ _ _ h => h) (yieldsIf_val (by rfl) (by intro W; go_simp)) H1r ?_
    simp only [List.setIfInBounds_toArray, List.set_cons_zero, List.set_cons_succ]
    refine hTake (i := 23) (k := 41) (v := .bool true) rfl rfl (by kernel_rfl) (by kernel_rfl) (by kernel_rfl) (fun _ _ _ h => h) (yieldsIf_val (by rfl) (by intro W; go_simp)) H1r ?_
    simp only [List.setIfInBounds_toArray, List.set_cons_zero, List.set_cons_succ]
    refine wpAnyH_done (by kernel_rfl) ?_ _
    have HB := Lib.hid H1r.bel
    go_wp2_with fail
    go_ret2
    exact ⟨rfl, HB.out⟩
  · rw [show q % 2 = 1 by omega] at ha
    rw [if_neg hm]
    clear hm
    go_enter Try.func19, Try.ntmps19
    go_wp2_with fail
    have H0 := HPG.out.below (bRef _).drew
    refine wp_region_held_drew (S := PG b g h hc B C sl W) (by kernel_rfl) H0 (fun _ => ?_)
    refine hTake (i := 0) (k := 42) (v := .pointer (some ⟨g, 0, none⟩)) rfl rfl (by kernel_rfl) (by kernel_rfl) (by kernel_rfl) (fun _ _ _ h => h) (yieldsIf_val (by rfl) (by intro W; go_simp)) H0 ?_
    simp only [List.setIfInBounds_toArray, List.set_cons_zero, List.set_cons_succ]
    refine hTake (i := 1) (k := 43) (v := .pointer (some ⟨g, 0, none⟩)) rfl rfl (by kernel_rfl) (by kernel_rfl) (by kernel_rfl) (fun _ _ _ h => h) (yieldsIf_val (by rfl) (by intro W; go_simp)) H0 ?_
    simp only [List.setIfInBounds_toArray, List.set_cons_zero, List.set_cons_succ]
    refine hTake (i := 2) (k := 44) (v := .pointer (some ⟨g, 0, none⟩)) rfl rfl (by kernel_rfl) (by kernel_rfl) (by kernel_rfl) (fun _ _ _ h => h) (yieldsIf_val (by rfl) (by intro W; go_simp)) H0 ?_
    simp only [List.setIfInBounds_toArray, List.set_cons_zero, List.set_cons_succ]
    refine hTake (i := 3) (k := 45) (v := .pointer (some ⟨g, 9, none⟩)) rfl rfl (by kernel_rfl) (by kernel_rfl) (by kernel_rfl) (fun _ _ _ h => h) (yieldsIf_val (by rfl) (by intro W; go_simp)) H0 ?_
    simp only [List.setIfInBounds_toArray, List.set_cons_zero, List.set_cons_succ]
    refine hTake (i := 4) (k := 46) (v := .int .i64 0) rfl rfl (by kernel_rfl) (by kernel_rfl) (by kernel_rfl) (fun _ _ _ h => h) (.inl ⟨by rfl, fun W hW => by obtain ⟨c1, c9, c13, g0, g1, g2, bb⟩ := hW; go_simp⟩) H0 ?_
    simp only [List.setIfInBounds_toArray, List.set_cons_zero, List.set_cons_succ]
    refine hTake (i := 5) (k := 47) (v := .bool true) rfl rfl (by kernel_rfl) (by kernel_rfl) (by kernel_rfl) (fun _ _ _ h => h) (yieldsIf_val (by rfl) (by intro W; go_simp)) H0 ?_
    simp only [List.setIfInBounds_toArray, List.set_cons_zero, List.set_cons_succ]
    refine hTake (i := 6) (k := 48) (v := .bool true) rfl rfl (by kernel_rfl) (by kernel_rfl) (by kernel_rfl) (fun _ _ _ h => h) (yieldsIf_val (by rfl) (by intro W; go_simp)) H0 ?_
    simp only [List.setIfInBounds_toArray, List.set_cons_zero, List.set_cons_succ]
    refine hTake (i := 7) (k := 49) (v := .pointer (some ⟨b, 0, none⟩)) rfl rfl (by kernel_rfl) (by kernel_rfl) (by kernel_rfl) (fun _ _ _ h => h) (yieldsIf_val (by rfl) (by intro W; go_simp)) H0 ?_
    simp only [List.setIfInBounds_toArray, List.set_cons_zero, List.set_cons_succ]
    refine hTake (i := 8) (k := 50) (v := .pointer (some ⟨b, 0, none⟩)) rfl rfl (by kernel_rfl) (by kernel_rfl) (by kernel_rfl) (fun _ _ _ h => h) (yieldsIf_val (by rfl) (by intro W; go_simp)) H0 ?_
    simp only [List.setIfInBounds_toArray, List.set_cons_zero, List.set_cons_succ]
    refine hTake (i := 9) (k := 51) (v := .pointer (some ⟨b, 1, none⟩)) rfl rfl (by kernel_rfl) (by kernel_rfl) (by kernel_rfl) (fun _ _ _ h => h) (yieldsIf_val (by rfl) (by intro W; go_simp)) H0 ?_
    simp only [List.setIfInBounds_toArray, List.set_cons_zero, List.set_cons_succ]
    refine hTake (i := 10) (k := 52) (v := .slice (some ⟨h, 0, none⟩) 1 hc) rfl rfl (by kernel_rfl) (by kernel_rfl) (by kernel_rfl) (fun _ _ _ h => h) (.inl ⟨by rfl, fun W hW => by obtain ⟨c1, c9, c13, g0, g1, g2, bb⟩ := hW; go_simp⟩) H0 ?_
    simp only [List.setIfInBounds_toArray, List.set_cons_zero, List.set_cons_succ]
    refine hTake (i := 11) (k := 53) (v := .pointer (some ⟨g, 0, none⟩)) rfl rfl (by kernel_rfl) (by kernel_rfl) (by kernel_rfl) (fun _ _ _ h => h) (yieldsIf_val (by rfl) (by intro W; go_simp)) H0 ?_
    simp only [List.setIfInBounds_toArray, List.set_cons_zero, List.set_cons_succ]
    refine hTake (i := 12) (k := 54) (v := .pointer (some ⟨g, 0, none⟩)) rfl rfl (by kernel_rfl) (by kernel_rfl) (by kernel_rfl) (fun _ _ _ h => h) (yieldsIf_val (by rfl) (by intro W; go_simp)) H0 ?_
    simp only [List.setIfInBounds_toArray, List.set_cons_zero, List.set_cons_succ]
    refine hTake (i := 13) (k := 55) (v := .pointer (some ⟨g, 0, none⟩)) rfl rfl (by kernel_rfl) (by kernel_rfl) (by kernel_rfl) (fun _ _ _ h => h) (yieldsIf_val (by rfl) (by intro W; go_simp)) H0 ?_
    simp only [List.setIfInBounds_toArray, List.set_cons_zero, List.set_cons_succ]
    refine hTake (i := 14) (k := 56) (v := .pointer (some ⟨g, 9, none⟩)) rfl rfl (by kernel_rfl) (by kernel_rfl) (by kernel_rfl) (fun _ _ _ h => h) (yieldsIf_val (by rfl) (by intro W; go_simp)) H0 ?_
    simp only [List.setIfInBounds_toArray, List.set_cons_zero, List.set_cons_succ]
    refine hTake (i := 15) (k := 57) (v := .int .i64 0) rfl rfl (by kernel_rfl) (by kernel_rfl) (by kernel_rfl) (fun _ _ _ h => h) (.inl ⟨by rfl, fun W hW => by obtain ⟨c1, c9, c13, g0, g1, g2, bb⟩ := hW; go_simp⟩) H0 ?_
    simp only [List.setIfInBounds_toArray, List.set_cons_zero, List.set_cons_succ]
    refine hTake (i := 16) (k := 58) (v := .pointer (some ⟨h, 0, none⟩)) rfl rfl (by kernel_rfl) (by kernel_rfl) (by kernel_rfl) (fun _ _ _ h => h) (yieldsIf_val (by rfl) (by intro W; go_simp)) H0 ?_
    simp only [List.setIfInBounds_toArray, List.set_cons_zero, List.set_cons_succ]
    refine hTake (i := 17) (k := 59) (v := LV B C sl) rfl rfl (by kernel_rfl) (by kernel_rfl) (by kernel_rfl) (fun _ _ _ h => h) (.inl ⟨by rfl, fun W hW => by obtain ⟨c1, c9, c13, g0, g1, g2, bb⟩ := hW; go_simp⟩) H0 ?_
    simp only [List.setIfInBounds_toArray, List.set_cons_zero, List.set_cons_succ]
    refine hTake (i := 18) (k := 60) (v := .int .i64 now) rfl rfl (by kernel_rfl) (by kernel_rfl) (by kernel_rfl) (fun _ _ _ h => h) (yieldsIf_val (by rfl) (by intro W; go_simp)) H0 ?_
    simp only [List.setIfInBounds_toArray, List.set_cons_zero, List.set_cons_succ]
    refine hCall (i := 19) (k := 61) (by kernel_rfl) rfl rfl (by rfl) 13 #[LV B C sl, .int .i64 now] (by intro W; go_simp) (.int .i64 q) (fun W3 hW => (HS.out W3 hW.bel).mono fun e W4 hh => ⟨hh.1, hW.below hh.2⟩) H0 (fun W1 H1r => ?_)
    simp only [List.setIfInBounds_toArray, List.set_cons_zero, List.set_cons_succ]
    refine hTake (i := 20) (k := 62) (v := .int .i64 1) rfl rfl (by kernel_rfl) (by kernel_rfl) (by kernel_rfl) (fun _ _ _ h => h) (yieldsIf_val (by rfl) (by intro W; go_simp)) H1r ?_
    simp only [List.setIfInBounds_toArray, List.set_cons_zero, List.set_cons_succ]
    refine hTake (i := 21) (k := 63) (v := .bool false) rfl rfl (by kernel_rfl) (by kernel_rfl) (by kernel_rfl) (fun _ _ _ h => h) (yieldsIf_val (by rfl) (by intro W; go_simp)) H1r ?_
    simp only [List.setIfInBounds_toArray, List.set_cons_zero, List.set_cons_succ]
    refine hTake (i := 22) (k := 64) (v := .bool false) rfl rfl (by kernel_rfl) (by kernel_rfl) (by kernel_rfl) (fun _ _ _ h => h) (yieldsIf_val (by rfl) (by intro W; go_simp)) H1r ?_
    simp only [List.setIfInBounds_toArray, List.set_cons_zero, List.set_cons_succ]
    refine hTake (i := 23) (k := 41) (v := .bool false) rfl rfl (by kernel_rfl) (by kernel_rfl) (by kernel_rfl) (fun _ _ _ h => h) (yieldsIf_val (by rfl) (by intro W; go_simp)) H1r ?_
    simp only [List.setIfInBounds_toArray, List.set_cons_zero, List.set_cons_succ]
    refine wpAnyH_done (by kernel_rfl) ?_ _
    have HB := Lib.hid H1r.bel
    have k13 := H1r.c13
    go_wp2_with fail
    go_ret2
    exact ⟨rfl, HB.out⟩

end Go.Proofs.Ytpdfgdjomlogbab
