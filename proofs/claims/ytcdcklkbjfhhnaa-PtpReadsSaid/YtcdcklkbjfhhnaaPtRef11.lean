/- The reference's Decode in parts: the loop over the pairs. Written by gen_ptref11.py. -/
import Derived.Test.YtcdcklkbjfhhnaaPtHandR
import Derived.Deep.CutRange
import Derived.Deep.QuietTactic
import Derived.BigQuiet
namespace Go.Proofs.Ytcdcklkbjfhhnaa
open Go.RowKit Go.Joins Go.Deep

/-- The first region of a code. -/
def firstReg : Code → Option Nat
  | .region n _ _ => some n
  | .seq a _ => firstReg a
  | .block _ c => firstReg c
  | .loop c => firstReg c
  | .scope c => firstReg c
  | _ => none
/-- The parts that begin with a region, the largest first. -/
def partsAt (n : Nat) : Code → List Code
  | .seq a b => (if firstReg (.seq a b) = some n then [.seq a b] else []) ++ (partsAt n a ++ partsAt n b)
  | .block i c => (if firstReg c = some n then [.block i c] else []) ++ partsAt n c
  | .loop c => (if firstReg c = some n then [.loop c] else []) ++ partsAt n c
  | .scope c => (if firstReg c = some n then [.scope c] else []) ++ partsAt n c
  | .cond _ a b => partsAt n a ++ partsAt n b
  | .region m o d => if m = n then [.region m o d] else []
  | _ => []
noncomputable def partOf (n i : Nat) : Code := (Try.f17.body.map fun c => (partsAt n c).getD i .skip).getD .skip
theorem list15 {l : List Int} (h : l.length = 15) : ∃ a b c d e f g i j k m n p q r, l = [a, b, c, d, e, f, g, i, j, k, m, n, p, q, r] := by
  match l, h with
  | [a, b, c, d, e, f, g, i, j, k, m, n, p, q, r], _ => exact ⟨a, b, c, d, e, f, g, i, j, k, m, n, p, q, r, rfl⟩
theorem nums_ofN {N : List Int} (h : N.length = 15) (p : List Int) : nums (ofN N p) = N := by
  obtain ⟨a, b, c, d, e, f, g, i, j, k, m, n, p, q, r, rfl⟩ := list15 h
  rfl
theorem ofN_set {N : List Int} (h : N.length = 15) (p : List Int) {a : Nat} (ha : a < 15) (x : Int) (v : Value) : (MC (ofN N p) v).setIfInBounds a (.int .i64 x) = MC (ofN (N.set a x) p) v := by
  obtain ⟨y0, y1, y2, y3, y4, y5, y6, y7, y8, y9, y10, y11, y12, y13, y14, rfl⟩ := list15 h
  have : a = 0 ∨ a = 1 ∨ a = 2 ∨ a = 3 ∨ a = 4 ∨ a = 5 ∨ a = 6 ∨ a = 7 ∨ a = 8 ∨ a = 9 ∨ a = 10 ∨ a = 11 ∨ a = 12 ∨ a = 13 ∨ a = 14 := by omega
  rcases this with rfl | rfl | rfl | rfl | rfl | rfl | rfl | rfl | rfl | rfl | rfl | rfl | rfl | rfl | rfl <;> rfl
theorem BoxS.putN {W : World} {g a : Nat} {N p : List Int} {v : Value} (hb : BoxS W g (ofN N p) v) (h : N.length = 15) (ha : a < 15) (x : Int) : BoxS (W.setCell ⟨g, a, none⟩ (.int .i64 x)) g (ofN (N.set a x) p) v := by
  have e := heap_setCell_same W g a _ _ (.int .i64 x) hb
  rw [ofN_set h p ha x v] at e
  exact e
theorem BoxS.lt {W : World} {g : Nat} {m : Mg} {v : Value} (h : BoxS W g m v) : g < W.heap.size := by
  rcases Nat.lt_or_ge g W.heap.size with k | k
  · exact k
  · have e : W.heap[g]? = some _ := h
    rw [Array.getElem?_eq_none k] at e; cases e
/-- What stands in the midst of the reference's Decode. -/
structure DR (w : World) (g : Nat) (N p : List Int) (v : Value) (W : World) : Prop where
  box : BoxS W g (ofN N p) v
  len : N.length = 15
  zero : W.heap[w.heap.size]? = some (.cells ZC 38 (0, 0))
  bel : Below w.heap.size w W
  gt : w.heap.size < g
theorem DR.below {w W W' : World} {g : Nat} {N p : List Int} {v : Value} (h : DR w g N p v W) (hb : Below W.heap.size W W') : DR w g N p v W' :=
  ⟨h.box.below hb, h.len, (hb.block _ (by have := h.box.lt; have := h.gt; omega)).trans h.zero, bTr h.bel hb, h.gt⟩
theorem DR.put {w W : World} {g a : Nat} {N p : List Int} {v : Value} (h : DR w g N p v W) (ha : a < 15) (x : Int) : DR w g (N.set a x) p v (W.setCell ⟨g, a, none⟩ (.int .i64 x)) :=
  ⟨h.box.putN h.len ha x, by rw [List.length_set]; exact h.len, (heap_setCell_other W ⟨g, a, none⟩ _ _ (by have := h.gt; simp; omega)).trans h.zero, h.bel.setCell (p := ⟨g, a, none⟩) (Nat.le_of_lt h.gt) _, h.gt⟩
theorem PRow.put {W : World} {g1 g i : Nat} {ps : List (Nat × Nat)} {x : Value} (h : PRow W g1 ps) (hne : g1 ≠ g) : PRow (W.setCell ⟨g, i, none⟩ x) g1 ps := by
  obtain ⟨cs, fr, hg, hc⟩ := h
  exact ⟨cs, fr, (heap_setCell_other W ⟨g, i, none⟩ _ _ hne).trans hg, hc⟩
theorem go6_at {xs : List Nat} {ps : List (Nat × Nat)} {j k : Nat} {N : List Int} (hj : j < ps.length) : go6 xs (ps.drop j) k N = if xs.length < k + (ps.getD j (0, 0)).2 then (N, k, true) else go6 xs (ps.drop (j + 1)) (k + (ps.getD j (0, 0)).2) (N.set (ps.getD j (0, 0)).1 (w64 (unum ((xs.drop k).take (ps.getD j (0, 0)).2)))) := by
  rw [List.drop_eq_getElem_cons hj]
  show (if _ then _ else _) = _
  rw [show ps.getD j (0, 0) = ps[j] by simp [List.getD_eq_getElem?_getD, hj]]
def DRel (w : World) (g g1 : Nat) (xs : List Nat) (ps : List (Nat × Nat)) (R : List Int × Nat × Bool) (kv sv jv : Value) (wr : World) : Prop :=
  ∃ (j k : Nat) (N : List Int), jv = .int .i64 (j : Int) ∧ kv = .int .i64 (k : Int) ∧ sv = .bool false ∧ j ≤ ps.length ∧ k ≤ xs.length ∧ R = go6 xs (ps.drop j) k N ∧ DR w g N [] (.slice none 0 0) wr ∧ PRow wr g1 ps
set_option maxRecDepth 1000000 in
set_option maxHeartbeats 16000000 in
theorem rd_loop {w W : World} {b o c g g1 cc : Nat} {xs : List Nat} {ps : List (Nat × Nat)} {N0 : List Int} {R : List Int × Nat × Bool} {a1 a2 a3 a6 a9 a10 a11 a12 a13 a14 a15 a16 a17 a18 a19 a20 a21 a22 a23 a24 a25 a26 a27 a28 a29 a30 a31 a32 a33 a34 a35 a36 a37 a38 a39 a40 a41 a42 a43 a44 a45 a46 a47 a48 a49 a50 a51 a52 a53 a54 a55 a56 a57 a58 a59 a60 a61 a62 a63 a64 a65 a66 a67 a68 a69 a70 a71 a72 a73 a74 a75 a76 a77 a78 a79 a80 a81 a82 a83 a84 a85 a86 a87 a88 a89 a90 a91 a92 a93 a94 a95 a96 a97 a98 a99 a100 a101 a102 a103 a104 a105 a106 a107 a108 a109 a110 a111 a112 a113 a114 a115 a116 a117 a118 a119 a120 a121 a122 a123 a124 a125 a126 a127 a128 a129 a130 a131 a132 a133 a134 a135 a136 : Value} {Q0 : Exit → Act → World → Prop}
    (h : DR w g N0 [] (.slice none 0 0) W) (hPr : PRow W g1 ps) (hne : g1 ≠ g) (hx : Crc.Bytes xs) (hr : Rd w b o xs) (hl : xs.length < 140737488355328) (hc : xs.length ≤ c) (h1 : 1 ≤ xs.length) (hp : ps.length ≤ 20) (hps : ∀ j, j < ps.length → (ps.getD j (0, 0)).1 < 15 ∧ (ps.getD j (0, 0)).2 ≤ 8 ∧ 1 ≤ (ps.getD j (0, 0)).2) (hR : R = go6 xs ps 1 N0)
    (hP : ∀ c (ax : Act) (kx : Option Nat) (vx : Value) (wx : World), Q0 (.panic c) (ax.put kx vx) wx → Q0 (.panic c) ax wx)
    (hQ : ∀ (z10 z46 z47 z48 z49 z50 z51 z52 z53 z54 z55 z56 z57 z58 z59 z60 z61 z62 z63 z64 z65 z66 z67 z68 z69 z70 z71 z72 z73 z74 z75 : Value) (W' : World), DR w g R.1 [] (.slice none 0 0) W' → R.2.1 ≤ xs.length → Q0 .normal ⟨#[.slice (some ⟨b, o, none⟩) xs.length c, a1, a2, a3, .pointer (some ⟨g, 0, none⟩), .slice (some ⟨g1, 0, none⟩) ps.length cc, a6, .int .i64 (R.2.1 : Int), .bool R.2.2, a9, z10, a11, a12, a13, a14, a15, a16, a17, a18, a19, a20, a21, a22, a23, a24, a25, a26, a27, a28, a29, a30, a31, a32, a33, a34, a35, a36, a37, a38, a39, a40, a41, a42, a43, a44, a45, z46, z47, z48, z49, z50, z51, z52, z53, z54, z55, z56, z57, z58, z59, z60, z61, z62, z63, z64, z65, z66, z67, z68, z69, z70, z71, z72, z73, z74, z75, a76, a77, a78, a79, a80, a81, a82, a83, a84, a85, a86, a87, a88, a89, a90, a91, a92, a93, a94, a95, a96, a97, a98, a99, a100, a101, a102, a103, a104, a105, a106, a107, a108, a109, a110, a111, a112, a113, a114, a115, a116, a117, a118, a119, a120, a121, a122, a123, a124, a125, a126, a127, a128, a129, a130, a131, a132, a133, a134, a135, a136], []⟩ W') :
    Code.wp Try.prog (partOf 12 1) Q0 ⟨#[.slice (some ⟨b, o, none⟩) xs.length c, a1, a2, a3, .pointer (some ⟨g, 0, none⟩), .slice (some ⟨g1, 0, none⟩) ps.length cc, a6, .int .i64 1, .bool false, a9, a10, a11, a12, a13, a14, a15, a16, a17, a18, a19, a20, a21, a22, a23, a24, a25, a26, a27, a28, a29, a30, a31, a32, a33, a34, a35, a36, a37, a38, a39, a40, a41, a42, a43, a44, a45, a46, a47, a48, a49, a50, a51, a52, a53, a54, a55, a56, a57, a58, a59, a60, a61, a62, a63, a64, a65, a66, a67, a68, a69, a70, a71, a72, a73, a74, a75, a76, a77, a78, a79, a80, a81, a82, a83, a84, a85, a86, a87, a88, a89, a90, a91, a92, a93, a94, a95, a96, a97, a98, a99, a100, a101, a102, a103, a104, a105, a106, a107, a108, a109, a110, a111, a112, a113, a114, a115, a116, a117, a118, a119, a120, a121, a122, a123, a124, a125, a126, a127, a128, a129, a130, a131, a132, a133, a134, a135, a136], []⟩ W := by
  replace hQ := Lib.hid hQ
  have H0 : Hid (DRel w g g1 xs ps R (.int .i64 1) (.bool false) (.int .i64 0) W) := Lib.hid ⟨0, 1, N0, rfl, rfl, rfl, Nat.zero_le _, h1, hR, h, hPr⟩
  have HX := Lib.hid hx
  have HRD := Lib.hid hr
  have HPS := Lib.hid hps
  have HNE := Lib.hid hne
  have HP0 := Lib.hid hPr
  have HLL := Lib.hid (And.intro hl hc)
  clear h hPr hne hx hr h1 hps hR hl hc
  conv => arg 2; whnf
  go_wp2_with fail
  go_loopw [7, 8, 48] (fun kv sv jv wr => DRel w g g1 xs ps R kv sv jv wr) (fun _ _ jv _ => ps.length - (intOf jv).toNat)
  case atStart => exact H0.out
  case round =>
    obtain ⟨j, k, N, rfl, rfl, rfl, hj, hk, hR, hD, hP⟩ := hrel
    have HD := Lib.hid hD
    have HPR := Lib.hid hP
    clear hD hP H0
    rcases Nat.lt_or_ge j ps.length with gj | gj
    · have hd : decide ((j : Int) < (ps.length : Int)) = true := decide_eq_true (by omega)
      rw [go6_at gj] at hR
      obtain ⟨cs, fr, hg, hcc⟩ := HPR.out
      obtain ⟨hc1, hc2⟩ := hcc j gj
      have ka : wr.cell? ⟨g1, j * 2, none⟩ = some (.int .i64 ((ps.getD j (0, 0)).1 : Int)) := by rw [Nat.mul_comm, cell_of_row wr g1 _ _ _ _ hg]; exact hc1
      have kb : wr.cell? ⟨g1, j * 2 + 1, none⟩ = some (.int .i64 ((ps.getD j (0, 0)).2 : Int)) := by rw [Nat.mul_comm, cell_of_row wr g1 _ _ _ _ hg]; exact hc2
      obtain ⟨ha, hb8, hb1⟩ := HPS.out j gj
      obtain ⟨a, hae⟩ : ∃ a, a = (ps.getD j (0, 0)).1 := ⟨_, rfl⟩
      obtain ⟨z, hze⟩ : ∃ z, z = (ps.getD j (0, 0)).2 := ⟨_, rfl⟩
      rw [← hae] at ka ha hR
      rw [← hze] at kb hb8 hb1 hR
      have hll := HLL.out
      have ew : wrap64 ((k : Int) + (z : Int)) = (k : Int) + (z : Int) := by unfold wrap64; omega
      have eir : IntKind.i64.wrap ((k : Int) + (z : Int)) = (k : Int) + (z : Int) := by rw [IntKind.wrap_i64]; omega
      clear hc1 hc2 hcc hg hae hze cs fr
      by_cases hs : xs.length < k + z
      · have dq : decide ((xs.length : Int) < (k : Int) + (z : Int)) = true := decide_eq_true (by omega)
        rw [if_pos hs] at hR
        have HRR := Lib.hid hR
        clear hR hs
        go_wp2_with fail
        have e := HRR.out
        subst e
        exact hQ.out _ _ _ _ _ _ _ _ _ _ _ _ _ _ _ _ _ _ _ _ _ _ _ _ _ _ _ _ _ _ _ _ (HD.out.below (bAl (bRef wr) _)) hk
      · have dq : decide ((xs.length : Int) < (k : Int) + (z : Int)) = false := decide_eq_false (by omega)
        rw [if_neg hs] at hR
        have HRR := Lib.hid hR
        have HSZ : Hid (k + z ≤ xs.length) := Lib.hid (by omega)
        have hck : ¬ c = k := by omega
        have etn : ((k : Int) + (z : Int)).toNat - k = z := by omega
        have ia : (0 : Int) ≤ (a : Int) ∧ (a : Int) < 15 := by omega
        have s1 : (0 : Int) ≤ (k : Int) ∧ (k : Int) ≤ (k : Int) + (z : Int) ∧ (k : Int) + (z : Int) ≤ (c : Int) := by omega
        have hcell := HD.out.box.num a ha
        rw [nums_ofN HD.out.len] at hcell
        have hfr := frozen_of_row wr g a _ _ HD.out.box
        have HNM := Lib.hid (fun V (hV : Below w.heap.size w V) c' n' (e : n' = z) => number_ret b (o + k) c' n' ((xs.drop k).take z) V (by omega) (Lib.hid (by rw [List.length_take, List.length_drop]; omega)) (Lib.hid (Crc.bytes_take (Crc.bytes_drop HX.out k) z)) (Lib.hid (fun jj hj => by rw [sub_getD (by omega), Nat.add_assoc]; exact ((HRD.out.below hV) (by omega)).2 (k + jj) (by omega))))
        obtain ⟨u, hu⟩ : ∃ u, u = w64 (unum ((xs.drop k).take z)) := ⟨_, rfl⟩
        rw [← hu] at HRR
        simp only [← hu] at HNM
        clear hR hs hu
        go_upto_region 17 with fail
        have HSG : Hid (wr.heap.size ≠ g) := Lib.hid (by have := HD.out.box.lt; omega)
        have hba := bAl (bRef wr) (.cells #[.int .i64 (a : Int), .int .i64 (z : Int)] 58 (0, 0))
        have hsb := heap_alloc_new wr (.cells #[.int .i64 (a : Int), .int .i64 (z : Int)] 58 (0, 0))
        have hD1 := HD.out.below hba
        have hP1 := HPR.out.below hba
        generalize wr.alloc (.cells #[.int .i64 (a : Int), .int .i64 (z : Int)] 58 (0, 0)) = W1 at *
        generalize wr.heap.size = sb at *
        have hD2 := hD1.below (bDr (bRef W1) 1)
        have hP2 := hP1.below (bDr (bRef W1) 1)
        have t0 : (W1.drewN 1).cell? ⟨sb, 0, none⟩ = some (.int .i64 (a : Int)) := cell_of_row _ _ _ _ _ _ hsb
        have t1 : (W1.drewN 1).cell? ⟨sb, 1, none⟩ = some (.int .i64 (z : Int)) := cell_of_row _ _ _ _ _ _ hsb
        have hcell := hD2.box.num a ha
        rw [nums_ofN hD2.len] at hcell
        have hfr := frozen_of_row (W1.drewN 1) g a _ _ hD2.box
        clear hba hsb hD1 hP1
        refine wp_region_held_drew (S := fun V => V.cell? ⟨sb, 0, none⟩ = some (.int .i64 (a : Int)) ∧ V.cell? ⟨sb, 1, none⟩ = some (.int .i64 (z : Int))) (by kernel_rfl) ⟨t0, t1⟩ (fun h0 => ?_)
        have ew1 : W1.drew = W1.drewN 1 := rfl
        rw [ew1] at h0 ⊢
        clear ew1
        generalize W1.drewN 1 = wd at *
        refine hTakeS (i := 0) (k := 59) (v := .pointer (some ⟨sb, 0, none⟩)) rfl rfl (by kernel_rfl) (by kernel_rfl) (by kernel_rfl) (fun cx ax wx hx => hP cx ax _ _ wx hx) (yieldsIf_val (by rfl) (by intro W; go_simp)) h0 ?_
        simp only [List.setIfInBounds_toArray, List.set_cons_zero, List.set_cons_succ]
        refine hTakeS (i := 1) (k := 60) (v := .int .i64 (a : Int)) rfl rfl (by kernel_rfl) (by kernel_rfl) (by kernel_rfl) (fun cx ax wx hx => hP cx ax _ _ wx hx) (.inl ⟨by rfl, fun W hW => by obtain ⟨q0, q1⟩ := hW; go_simp⟩) h0 ?_
        simp only [List.setIfInBounds_toArray, List.set_cons_zero, List.set_cons_succ]
        refine hTakeS (i := 2) (k := 61) (v := .slice (some ⟨b, o, none⟩) xs.length c) rfl rfl (by kernel_rfl) (by kernel_rfl) (by kernel_rfl) (fun cx ax wx hx => hP cx ax _ _ wx hx) (yieldsIf_val (by rfl) (by intro W; go_simp)) h0 ?_
        simp only [List.setIfInBounds_toArray, List.set_cons_zero, List.set_cons_succ]
        refine hTakeS (i := 3) (k := 62) (v := .int .i64 (k : Int)) rfl rfl (by kernel_rfl) (by kernel_rfl) (by kernel_rfl) (fun cx ax wx hx => hP cx ax _ _ wx hx) (yieldsIf_val (by rfl) (by intro W; go_simp)) h0 ?_
        simp only [List.setIfInBounds_toArray, List.set_cons_zero, List.set_cons_succ]
        refine hTakeS (i := 4) (k := 63) (v := .int .i64 (k : Int)) rfl rfl (by kernel_rfl) (by kernel_rfl) (by kernel_rfl) (fun cx ax wx hx => hP cx ax _ _ wx hx) (yieldsIf_val (by rfl) (by intro W; go_simp)) h0 ?_
        simp only [List.setIfInBounds_toArray, List.set_cons_zero, List.set_cons_succ]
        refine hTakeS (i := 5) (k := 64) (v := .pointer (some ⟨sb, 1, none⟩)) rfl rfl (by kernel_rfl) (by kernel_rfl) (by kernel_rfl) (fun cx ax wx hx => hP cx ax _ _ wx hx) (yieldsIf_val (by rfl) (by intro W; go_simp)) h0 ?_
        simp only [List.setIfInBounds_toArray, List.set_cons_zero, List.set_cons_succ]
        refine hTakeS (i := 6) (k := 65) (v := .int .i64 (z : Int)) rfl rfl (by kernel_rfl) (by kernel_rfl) (by kernel_rfl) (fun cx ax wx hx => hP cx ax _ _ wx hx) (.inl ⟨by rfl, fun W hW => by obtain ⟨q0, q1⟩ := hW; go_simp⟩) h0 ?_
        simp only [List.setIfInBounds_toArray, List.set_cons_zero, List.set_cons_succ]
        refine hTakeS (i := 7) (k := 66) (v := .int .i64 ((k : Int) + (z : Int))) rfl rfl (by kernel_rfl) (by kernel_rfl) (by kernel_rfl) (fun cx ax wx hx => hP cx ax _ _ wx hx) (yieldsIf_val (by rfl) (by intro W; go_simp)) h0 ?_
        simp only [List.setIfInBounds_toArray, List.set_cons_zero, List.set_cons_succ]
        refine hTakeS (i := 8) (k := 67) (v := .slice (some ⟨b, o + k, none⟩) z (c - k)) rfl rfl (by kernel_rfl) (by kernel_rfl) (by kernel_rfl) (fun cx ax wx hx => hP cx ax _ _ wx hx) (yieldsIf_val (by rfl) (by intro W; go_simp)) h0 ?_
        simp only [List.setIfInBounds_toArray, List.set_cons_zero, List.set_cons_succ]
        refine hTakeS (i := 10) (k := 69) (v := .pointer (some ⟨g, 0, none⟩)) rfl rfl (by kernel_rfl) (by kernel_rfl) (by kernel_rfl) (fun cx ax wx hx => hP cx ax _ _ wx hx) (yieldsIf_val (by rfl) (by intro W; go_simp)) h0 ?_
        simp only [List.setIfInBounds_toArray, List.set_cons_zero, List.set_cons_succ]
        refine hCallR (i := 9) (k := 68) (by kernel_rfl) rfl rfl (by rfl) 27 #[.slice (some ⟨b, o + k, none⟩) z (c - k)] (by go_simp) (HNM.out _ hD2.bel _ _ rfl) ?_
        rintro e wn ⟨rfl, rfl⟩
        refine ⟨_, rfl, h0, ?_⟩
        simp only [List.setIfInBounds_toArray, List.set_cons_zero, List.set_cons_succ]
        refine hTakeS (i := 11) (k := 70) (v := .pointer (some ⟨g, a, none⟩)) rfl rfl (by kernel_rfl) (by kernel_rfl) (by kernel_rfl) (fun cx ax wx hx => hP cx ax _ _ wx hx) (yieldsIf_val (by rfl) (by intro W; go_simp)) h0 ?_
        simp only [List.setIfInBounds_toArray, List.set_cons_zero, List.set_cons_succ]
        have hst : (wd.setCell ⟨g, a, none⟩ (.int .i64 u)).cell? ⟨sb, 0, none⟩ = some (.int .i64 (a : Int)) ∧ (wd.setCell ⟨g, a, none⟩ (.int .i64 u)).cell? ⟨sb, 1, none⟩ = some (.int .i64 (z : Int)) := ⟨(World.cell?_of_block (heap_setCell_other wd ⟨g, a, none⟩ sb _ HSG.out)).trans t0, (World.cell?_of_block (heap_setCell_other wd ⟨g, a, none⟩ sb _ HSG.out)).trans t1⟩
        refine hOneNS (i := 12) (w' := wd.setCell ⟨g, a, none⟩ (.int .i64 u)) (by kernel_rfl) rfl rfl (by rfl) (by go_simp) hst ?_
        refine wpAnyH_done (by kernel_rfl) ?_ _
        have hD3 := hD2.put ha u
        have hP3 := hP2.put (i := a) (x := .int .i64 u) HNE.out
        have HD3 := Lib.hid hD3
        have HP3 := Lib.hid hP3
        have t3 : (wd.setCell ⟨g, a, none⟩ (.int .i64 u)).cell? ⟨sb, 1, none⟩ = some (.int .i64 (z : Int)) := hst.2
        clear hD3 hP3 hD2 hP2 hcell hfr t0 t1 h0 hst
        go_wp2_with fail
        exact ⟨⟨j + 1, k + z, N.set a u, by go_num, by go_num, rfl, by omega, HSZ.out, HRR.out, HD3.out, HP3.out⟩, by simp [intOf]; omega⟩
    · obtain rfl : j = ps.length := by omega
      have hd : decide ((ps.length : Int) < (ps.length : Int)) = false := decide_eq_false (by omega)
      rw [List.drop_length] at hR
      have HRR := Lib.hid (show R = (N, k, false) from hR)
      clear hR
      go_wp2_with fail
      have e := HRR.out
      subst e
      exact hQ.out _ _ _ _ _ _ _ _ _ _ _ _ _ _ _ _ _ _ _ _ _ _ _ _ _ _ _ _ _ _ _ wr HD.out hk

end Go.Proofs.Ytcdcklkbjfhhnaa
