/- PortOpen in parts: one more in a row (region 17). Written by gen_poopen.py. -/
import Derived.Test.YtllmfkodgalklaaPoHe
import Derived.Test.YtllmfkodgalklaaPoArg
import Derived.Test.YtllmfkodgalklaaPoLnPutOk
import Derived.Deep.CutRange
import Derived.Deep.QuietTactic
import Derived.BigQuiet
namespace Go.Proofs.Ytllmfkodgalklaa
open Go.RowKit Go.Joins Go.Deep

/-- The first region of a code. -/
def firstReg : Code → Option Nat
  | .region n _ _ => some n
  | .seq a _ => firstReg a
  | .block _ c => firstReg c
  | .loop c => firstReg c
  | .scope c => firstReg c
  | _ => none
/-- The parts that begin with a region, the largest first. -/
def partsAt (n : Nat) : Code → List Code
  | .seq a b => (if firstReg (.seq a b) = some n then [.seq a b] else []) ++ (partsAt n a ++ partsAt n b)
  | .block i c => (if firstReg c = some n then [.block i c] else []) ++ partsAt n c
  | .loop c => (if firstReg c = some n then [.loop c] else []) ++ partsAt n c
  | .scope c => (if firstReg c = some n then [.scope c] else []) ++ partsAt n c
  | .cond _ a b => partsAt n a ++ partsAt n b
  | .region m o d => if m = n then [.region m o d] else []
  | _ => []
noncomputable def partOf (n i : Nat) : Code := (Try.f5.body.map fun c => (partsAt n c).getD i .skip).getD .skip

theorem wp_hideP {P : Program} {c : Code} {Q : Exit → Act → World → Prop} {a : Act} {w : World} (hP : ∀ c (ax : Act) (kx : Option Nat) (vx : Value) (wx : World), Q (.panic c) (ax.put kx vx) wx → Q (.panic c) ax wx)
    (h : ∀ Q' : Exit → Act → World → Prop, (∀ e a w, Q e a w → Q' e a w) → (∀ c (ax : Act) (kx : Option Nat) (vx : Value) (wx : World), Q' (.panic c) (ax.put kx vx) wx → Q' (.panic c) ax wx) → c.wp P Q' a w) : c.wp P Q a w := h Q (fun _ _ _ q => q) hP
set_option maxRecDepth 1000000 in
set_option maxHeartbeats 16000000 in
theorem rn_push {w W : World} {k P hb : Nat} {b cy : Int} {sl : Value} {ts : List (Int × Int)} {F : Nat → Prop} {s : LS} {H : Nat → List Int} {vs : Nat → Value} {ib c : Nat} {z : Int} {a0 a1 a2 a3 a4 a5 a6 a8 a9 a10 a13 a14 a15 a16 a17 a18 a19 a20 a21 a22 a23 a24 a25 a26 a27 a28 a29 a30 a31 a32 a33 a34 a35 a36 a37 a38 a39 a40 a41 a42 a43 a44 a45 a46 a47 a48 a49 a50 a51 a52 a53 a54 a55 a56 a57 a58 a59 a60 a61 a62 a63 a64 a65 a66 a67 a68 a69 a70 a71 a72 a73 a74 a75 a76 a77 a78 a79 a80 a81 a82 a83 a84 a85 a86 a87 a88 a89 a90 a91 a92 a93 a94 a95 a96 a97 a98 a99 a100 a101 a102 a103 a104 a105 a106 a107 a108 a109 a110 a111 a112 a113 a114 a115 a116 a117 a118 a119 a120 a121 a122 a123 a124 a125 a126 a127 a128 a129 a130 a131 a132 a133 a134 a135 a136 a137 a138 a139 a140 a141 a142 a143 a144 a145 a146 a147 a148 a149 a150 a151 a152 a153 a154 a155 a156 : Value} {Q0 : Exit → Act → World → Prop}
    (h : OpS w k P hb b cy sl ts F s H vs W) (hc8 : c < 8) (hz : W.cell? ⟨ib, 1, none⟩ = some (.int .i64 z)) (hl : (H c).length < 100000)
    (hP : ∀ c (ax : Act) (kx : Option Nat) (vx : Value) (wx : World), Q0 (.panic c) (ax.put kx vx) wx → Q0 (.panic c) ax wx)
    (hQ : ∀ (z62 z63 z64 z65 z66 z67 z68 z69 z70 : Value) (vs' : Nat → Value) (W' : World), OpS w k P hb b cy sl ts F s (upd H c (H c ++ [z])) vs' W' → Q0 .normal ⟨#[a0, a1, a2, a3, a4, a5, a6, .pointer (some ⟨hb, 0, none⟩), a8, a9, a10, .pointer (some ⟨ib, 0, none⟩), .int .i64 (c : Int), a13, a14, a15, a16, a17, a18, a19, a20, a21, a22, a23, a24, a25, a26, a27, a28, a29, a30, a31, a32, a33, a34, a35, a36, a37, a38, a39, a40, a41, a42, a43, a44, a45, a46, a47, a48, a49, a50, a51, a52, a53, a54, a55, a56, a57, a58, a59, a60, a61, z62, z63, z64, z65, z66, z67, z68, z69, z70, a71, a72, a73, a74, a75, a76, a77, a78, a79, a80, a81, a82, a83, a84, a85, a86, a87, a88, a89, a90, a91, a92, a93, a94, a95, a96, a97, a98, a99, a100, a101, a102, a103, a104, a105, a106, a107, a108, a109, a110, a111, a112, a113, a114, a115, a116, a117, a118, a119, a120, a121, a122, a123, a124, a125, a126, a127, a128, a129, a130, a131, a132, a133, a134, a135, a136, a137, a138, a139, a140, a141, a142, a143, a144, a145, a146, a147, a148, a149, a150, a151, a152, a153, a154, a155, a156], []⟩ W') :
    Code.wp Try.prog (partOf 17 0) Q0 ⟨#[a0, a1, a2, a3, a4, a5, a6, .pointer (some ⟨hb, 0, none⟩), a8, a9, a10, .pointer (some ⟨ib, 0, none⟩), .int .i64 (c : Int), a13, a14, a15, a16, a17, a18, a19, a20, a21, a22, a23, a24, a25, a26, a27, a28, a29, a30, a31, a32, a33, a34, a35, a36, a37, a38, a39, a40, a41, a42, a43, a44, a45, a46, a47, a48, a49, a50, a51, a52, a53, a54, a55, a56, a57, a58, a59, a60, a61, a62, a63, a64, a65, a66, a67, a68, a69, a70, a71, a72, a73, a74, a75, a76, a77, a78, a79, a80, a81, a82, a83, a84, a85, a86, a87, a88, a89, a90, a91, a92, a93, a94, a95, a96, a97, a98, a99, a100, a101, a102, a103, a104, a105, a106, a107, a108, a109, a110, a111, a112, a113, a114, a115, a116, a117, a118, a119, a120, a121, a122, a123, a124, a125, a126, a127, a128, a129, a130, a131, a132, a133, a134, a135, a136, a137, a138, a139, a140, a141, a142, a143, a144, a145, a146, a147, a148, a149, a150, a151, a152, a153, a154, a155, a156], []⟩ W := by
  replace hQ := Lib.hid hQ
  obtain ⟨p5, c5, hv⟩ := (h.row c hc8).form
  obtain ⟨p6, c6, W2, k1, k3, k2⟩ := (h.below (W' := W.drew) ⟨rfl, rfl, rfl, Nat.le_refl _, fun _ _ => rfl⟩).push hc8 z hl
  obtain ⟨n5, hn5⟩ : ∃ n, (H c).length = n := ⟨_, rfl⟩
  rw [hv, hn5] at k1
  rw [hn5] at k2
  have ge8 : ¬ (8 : Int) ≤ (c : Int) := by omega
  have q0 : W.drew.cell? ⟨hb, c, none⟩ = some (.slice p5 n5 c5) := by
    have := h8_cells vs h.box hc8
    rw [hv, hn5] at this
    exact this
  have q1 : W.drew.cell? ⟨ib, 1, none⟩ = some (.int .i64 z) := hz
  have q2 : (W.drew.alloc (.cells #[.int .i64 z] 3 (0, 0))).cell? ⟨hb, c, none⟩ = some (.slice p5 n5 c5) := (World.cell?_of_block (heap_alloc_old W.drew _ (block_lt_cell q0))).trans q0
  have q3 : (W.alloc (.cells #[.int .i64 z] 3 (0, 0))).cell? ⟨hb, c, none⟩ = some (.slice p5 n5 c5) := q2
  have f0 : W2.cell? ⟨hb, c, none⟩ = some (.slice p5 n5 c5) := by
    have := h8_cells vs k3 hc8
    rw [hv, hn5] at this
    exact this
  have f1 : W2.frozen? ⟨hb, c, none⟩ = false := frozen_of_row _ _ _ _ _ k3
  have K1 := Lib.hid k1
  have K2 := Lib.hid k2
  have ecw : IntKind.i64.wrap (c : Int) = (c : Int) := by rw [IntKind.wrap_i64]; omega
  clear h k1 k2 k3 hz hl hv hn5
  conv => arg 2; whnf
  refine wp_region_held_drew (S := fun _ => True) (by kernel_rfl) trivial (fun _ => ?_)
  refine hTake (i := 0) (k := 62) (v := .int .i64 (c : Int)) rfl rfl (by kernel_rfl) (by kernel_rfl) (by kernel_rfl) (fun cx ax wx hx => hP cx ax _ _ wx hx) (by rfl) (by intro W; go_simp) ?_
  simp only [List.setIfInBounds_toArray, List.set_cons_zero, List.set_cons_succ]
  refine hTake (i := 1) (k := 63) (v := .int .i64 (c : Int)) rfl rfl (by kernel_rfl) (by kernel_rfl) (by kernel_rfl) (fun cx ax wx hx => hP cx ax _ _ wx hx) (by rfl) (by intro W; go_simp) ?_
  simp only [List.setIfInBounds_toArray, List.set_cons_zero, List.set_cons_succ]
  refine hTake (i := 2) (k := 64) (v := .pointer (some ⟨hb, c, none⟩)) rfl rfl (by kernel_rfl) (by kernel_rfl) (by kernel_rfl) (fun cx ax wx hx => hP cx ax _ _ wx hx) (by rfl) (by intro W; go_simp) ?_
  simp only [List.setIfInBounds_toArray, List.set_cons_zero, List.set_cons_succ]
  refine hTake (i := 4) (k := 66) (v := .pointer (some ⟨ib, 1, none⟩)) rfl rfl (by kernel_rfl) (by kernel_rfl) (by kernel_rfl) (fun cx ax wx hx => hP cx ax _ _ wx hx) (by rfl) (by intro W; go_simp) ?_
  simp only [List.setIfInBounds_toArray, List.set_cons_zero, List.set_cons_succ]
  refine hTwo (i := 3) (j := 5) (k := 65) (m := 67) (v := .slice p5 n5 c5) (u := .int .i64 z) (w' := W.drew) (w2 := W.drew) (by kernel_rfl) rfl rfl rfl rfl (by rfl) (by rfl) (by go_simp) (by go_simp) ?_ ?_
  all_goals simp only [List.setIfInBounds_toArray, List.set_cons_zero, List.set_cons_succ]
  · refine hOne (i := 5) (k := 67) (v := .int .i64 z) (w' := W.drew) (by kernel_rfl) rfl rfl (by rfl) (by go_simp) ?_
    simp only [List.setIfInBounds_toArray, List.set_cons_zero, List.set_cons_succ]
    refine hOne (i := 6) (k := 68) (v := .slice (some ⟨W.heap.size, 0, none⟩) 1 1) (w' := (W.drew.alloc (.cells #[.int .i64 z] 3 (0, 0)))) (by kernel_rfl) rfl rfl (by rfl) (by go_simp) ?_
    simp only [List.setIfInBounds_toArray, List.set_cons_zero, List.set_cons_succ]
    refine hOne (i := 7) (k := 69) (v := .slice p6 (n5 + 1) c6) (w' := W2) (by kernel_rfl) rfl rfl (by rfl) (app_op (.tmp 65) (.tmp 68) 61 rfl rfl rfl K1.out) ?_
    simp only [List.setIfInBounds_toArray, List.set_cons_zero, List.set_cons_succ]
    refine hTake (i := 8) (k := 70) (v := .pointer (some ⟨hb, c, none⟩)) rfl rfl (by kernel_rfl) (by kernel_rfl) (by kernel_rfl) (fun cx ax wx hx => hP cx ax _ _ wx hx) (by rfl) (by intro W; go_simp) ?_
    simp only [List.setIfInBounds_toArray, List.set_cons_zero, List.set_cons_succ]
    refine hOneN (i := 9) (w' := W2.setCell ⟨hb, c, none⟩ (.slice p6 (n5 + 1) c6)) (by kernel_rfl) rfl rfl (by rfl) (by go_simp) ?_
    refine wpAnyH_done (by kernel_rfl) ?_ _
    exact hQ.out _ _ _ _ _ _ _ _ _ _ _ K2.out
  · refine hTwo (i := 3) (j := 6) (k := 65) (m := 68) (v := .slice p5 n5 c5) (u := .slice (some ⟨W.heap.size, 0, none⟩) 1 1) (w' := W.drew) (w2 := (W.drew.alloc (.cells #[.int .i64 z] 3 (0, 0)))) (by kernel_rfl) rfl rfl rfl rfl (by rfl) (by rfl) (by go_simp) (by go_simp) ?_ ?_
    all_goals simp only [List.setIfInBounds_toArray, List.set_cons_zero, List.set_cons_succ]
    · refine hOne (i := 6) (k := 68) (v := .slice (some ⟨W.heap.size, 0, none⟩) 1 1) (w' := (W.drew.alloc (.cells #[.int .i64 z] 3 (0, 0)))) (by kernel_rfl) rfl rfl (by rfl) (by go_simp) ?_
      simp only [List.setIfInBounds_toArray, List.set_cons_zero, List.set_cons_succ]
      refine hOne (i := 7) (k := 69) (v := .slice p6 (n5 + 1) c6) (w' := W2) (by kernel_rfl) rfl rfl (by rfl) (app_op (.tmp 65) (.tmp 68) 61 rfl rfl rfl K1.out) ?_
      simp only [List.setIfInBounds_toArray, List.set_cons_zero, List.set_cons_succ]
      refine hTake (i := 8) (k := 70) (v := .pointer (some ⟨hb, c, none⟩)) rfl rfl (by kernel_rfl) (by kernel_rfl) (by kernel_rfl) (fun cx ax wx hx => hP cx ax _ _ wx hx) (by rfl) (by intro W; go_simp) ?_
      simp only [List.setIfInBounds_toArray, List.set_cons_zero, List.set_cons_succ]
      refine hOneN (i := 9) (w' := W2.setCell ⟨hb, c, none⟩ (.slice p6 (n5 + 1) c6)) (by kernel_rfl) rfl rfl (by rfl) (by go_simp) ?_
      refine wpAnyH_done (by kernel_rfl) ?_ _
      exact hQ.out _ _ _ _ _ _ _ _ _ _ _ K2.out
    · refine hOne (i := 3) (k := 65) (v := .slice p5 n5 c5) (w' := (W.drew.alloc (.cells #[.int .i64 z] 3 (0, 0)))) (by kernel_rfl) rfl rfl (by rfl) (by go_simp) ?_
      simp only [List.setIfInBounds_toArray, List.set_cons_zero, List.set_cons_succ]
      refine hOne (i := 7) (k := 69) (v := .slice p6 (n5 + 1) c6) (w' := W2) (by kernel_rfl) rfl rfl (by rfl) (app_op (.tmp 65) (.tmp 68) 61 rfl rfl rfl K1.out) ?_
      simp only [List.setIfInBounds_toArray, List.set_cons_zero, List.set_cons_succ]
      refine hTake (i := 8) (k := 70) (v := .pointer (some ⟨hb, c, none⟩)) rfl rfl (by kernel_rfl) (by kernel_rfl) (by kernel_rfl) (fun cx ax wx hx => hP cx ax _ _ wx hx) (by rfl) (by intro W; go_simp) ?_
      simp only [List.setIfInBounds_toArray, List.set_cons_zero, List.set_cons_succ]
      refine hOneN (i := 9) (w' := W2.setCell ⟨hb, c, none⟩ (.slice p6 (n5 + 1) c6)) (by kernel_rfl) rfl rfl (by rfl) (by go_simp) ?_
      refine wpAnyH_done (by kernel_rfl) ?_ _
      exact hQ.out _ _ _ _ _ _ _ _ _ _ _ K2.out

end Go.Proofs.Ytllmfkodgalklaa
