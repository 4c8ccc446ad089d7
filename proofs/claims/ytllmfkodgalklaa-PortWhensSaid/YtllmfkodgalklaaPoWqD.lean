/- PortWhens in parts: what goes out has time enough. Written by gen_powhens.py. -/
import Derived.Test.YtllmfkodgalklaaPoWqC
namespace Go.Proofs.Ytllmfkodgalklaa
open Go.RowKit Go.Joins Go.Deep

set_option maxRecDepth 1000000 in
set_option maxHeartbeats 16000000 in
theorem rn_out_b {w W : World} {k P : Nat} {b cy : Int} {sl : Value} {ts : List (Int × Int)} {F : Nat → Prop} {s : LS} {m i0 i1 : Int} {i2 : Bool} {R : List It} {p d : Nat} {a0 a1 a3 a4 a6 a7 a8 a9 a10 a11 a13 a15 a16 a17 a18 a19 a20 a21 a22 a23 a24 a25 a26 a27 a28 a29 a30 a31 a32 a33 a34 a35 a36 a37 a38 a39 a40 a41 a42 a43 a44 a45 a46 a47 a48 a49 a50 a51 a52 a53 a54 a55 a56 a57 a58 a59 a60 a61 a62 a63 a64 a65 a66 a67 a68 a69 a70 a71 a72 a73 a74 a75 a76 a77 a78 a79 a80 a81 a82 a83 a84 a85 a86 a87 a88 a89 a90 a91 a92 a93 a94 a95 a96 a97 a98 a99 a100 a101 a102 a103 a104 a105 a106 a107 a108 a109 a110 a111 a112 a113 a114 a115 a116 a117 a118 a119 a120 a121 a122 a123 a124 a125 a126 a127 a128 a129 a130 a131 a132 a133 a134 a135 a136 a137 a138 a139 a140 a141 a142 a143 a144 a145 a146 a147 a148 a149 a150 a151 a152 a153 a154 a155 a156 a157 a158 a159 a160 a161 a162 a163 a164 a165 a166 a167 a168 a169 a170 a171 a172 a173 a174 a175 a176 a177 a178 a179 a180 a181 a182 a183 a184 a185 a186 a187 a188 a189 a190 a191 a192 a193 a194 a195 a196 a197 a198 a199 a200 a201 a202 : Value} {Q0 : Exit → Act → World → Prop}
    (h : WpS w k P b cy sl ts F s W) (h0 : 0 ≤ m) (h1 : m ≤ 300000000000) (hp : p < 100) (hd8 : d < 8) (hq : s.q d = (i0, i1, i2) :: R) (hx : 8 * i1 ≤ leftOf (PL.new b cy ts) m d) (hmx : ∀ e, d < e → e < 8 → ¬ fits s (leftOf (PL.new b cy ts) m) e)
    (hP : ∀ c (ax : Act) (kx : Option Nat) (vx : Value) (wx : World), Q0 (.panic c) (ax.put kx vx) wx → Q0 (.panic c) ax wx)
    (hQ : ∀ (z4 z19 z20 z21 z129 z130 z131 z132 z133 z134 z135 z136 z137 z138 z139 z140 z141 z142 z143 z144 z145 z146 z147 z148 z149 z150 z151 z152 z153 z154 : Value) (F' : Nat → Prop) (W' : World), WpS w k P b cy sl ts F' { s with q := upd s.q d R } W' → Q0 .normal ⟨#[a0, a1, .pointer (some ⟨w.heap.size, 0, none⟩), a3, z4, .pointer (some ⟨k, 0, none⟩), a6, a7, a8, a9, a10, .int .i64 (m + 8 * i1), .int .i64 ((p + 1 : Nat) : Int), a13, .int .i64 m, a15, a16, a17, a18, z19, z20, z21, a22, a23, a24, a25, a26, a27, a28, a29, a30, a31, a32, a33, a34, a35, a36, a37, a38, a39, a40, a41, a42, a43, a44, a45, a46, a47, a48, a49, a50, a51, a52, a53, a54, a55, a56, a57, a58, a59, a60, a61, a62, a63, a64, a65, a66, a67, a68, a69, a70, a71, a72, a73, a74, a75, a76, a77, a78, a79, a80, a81, a82, a83, a84, a85, a86, a87, a88, a89, a90, a91, a92, a93, a94, a95, a96, a97, a98, a99, a100, a101, a102, a103, a104, a105, a106, a107, a108, a109, a110, a111, a112, a113, a114, a115, a116, a117, a118, a119, a120, a121, a122, a123, a124, a125, a126, a127, a128, z129, z130, z131, z132, z133, z134, z135, z136, z137, z138, z139, z140, z141, z142, z143, z144, z145, z146, z147, z148, z149, z150, z151, z152, z153, z154, a155, a156, a157, a158, a159, a160, a161, a162, a163, a164, a165, a166, a167, a168, a169, a170, a171, a172, a173, a174, a175, a176, a177, a178, a179, a180, a181, a182, a183, a184, a185, a186, a187, a188, a189, a190, a191, a192, a193, a194, a195, a196, a197, a198, a199, a200, a201, a202], []⟩ W') :
    Code.wp Try.prog (partOf 31 0) Q0 ⟨#[a0, a1, .pointer (some ⟨w.heap.size, 0, none⟩), a3, a4, .pointer (some ⟨k, 0, none⟩), a6, a7, a8, a9, a10, a11, .int .i64 (p : Int), a13, .int .i64 m, a15, a16, a17, a18, a19, a20, a21, a22, a23, a24, a25, a26, a27, a28, a29, a30, a31, a32, a33, a34, a35, a36, a37, a38, a39, a40, a41, a42, a43, a44, a45, a46, a47, a48, a49, a50, a51, a52, a53, a54, a55, a56, a57, a58, a59, a60, a61, a62, a63, a64, a65, a66, a67, a68, a69, a70, a71, a72, a73, a74, a75, a76, a77, a78, a79, a80, a81, a82, a83, a84, a85, a86, a87, a88, a89, a90, a91, a92, a93, a94, a95, a96, a97, a98, a99, a100, a101, a102, a103, a104, a105, a106, a107, a108, a109, a110, a111, a112, a113, a114, a115, a116, a117, a118, a119, a120, a121, a122, a123, a124, a125, a126, a127, a128, a129, a130, a131, a132, a133, a134, a135, a136, a137, a138, a139, a140, a141, a142, a143, a144, a145, a146, a147, a148, a149, a150, a151, a152, a153, a154, a155, a156, a157, a158, a159, a160, a161, a162, a163, a164, a165, a166, a167, a168, a169, a170, a171, a172, a173, a174, a175, a176, a177, a178, a179, a180, a181, a182, a183, a184, a185, a186, a187, a188, a189, a190, a191, a192, a193, a194, a195, a196, a197, a198, a199, a200, a201, a202], []⟩ W := by
  replace hQ := Lib.hid hQ
  have HO := Lib.hid h
  have HP := Lib.hid hP
  have HD := Lib.hid (h.next (x := m) ⟨by omega, by omega⟩ (Picks.some hd8 hq hx hmx))
  have hzz := h.po.gd.sz d hd8 (i0, i1, i2) (by rw [hq]; exact List.mem_cons_self ..)
  have hz0 : 0 ≤ i1 := hzz.1
  have hz1 : i1 ≤ 1600 := hzz.2
  obtain ⟨sp, sc, rfl⟩ := h.arg.slice
  obtain ⟨nt, hnt⟩ : ∃ n, ts.length = n := ⟨_, rfl⟩
  have HNT := Lib.hid hnt
  rw [leftOf_new] at hx
  obtain ⟨lv, hlv⟩ : ∃ v, leftV b cy ts m (d : Int) = v := ⟨_, rfl⟩
  have HL : Hid (∀ V, TArg V (.slice sp nt sc) ts → Calls Try.prog 26 #[.agg #[.int .i64 b, .int .i64 cy, .slice sp nt sc], .int .i64 m, .int .i64 (d : Int)] V fun e w' => e = .returned (.int .i64 lv) ∧ Below V.heap.size V w') := Lib.hid (fun V hV => by have k := left_any b cy (.slice sp nt sc) ts m V (d : Int) hV; rw [hlv] at k; exact k)
  rw [hlv] at hx
  have e8 : wrap64 (8 * i1) = 8 * i1 := by unfold wrap64; omega
  have e9 : IntKind.i64.wrap (8 * i1) = 8 * i1 := by rw [IntKind.wrap_i64]; omega
  have ea : wrap64 (m + 8 * i1) = m + 8 * i1 := by unfold wrap64; omega
  have ep : wrap64 ((p : Int) + 1) = ((p + 1 : Nat) : Int) := by unfold wrap64; omega
  have HEA := Lib.hid ea
  have HEP := Lib.hid ep
  have dl : decide (lv < 8 * i1) = false := decide_eq_false (by omega)
  have dm : decide ((549755813888 : Int) < m + 8 * i1) = false := decide_eq_false (by omega)
  clear h h0 h1 hp hq hx hmx hP hzz hz0 hz1 hnt hlv
  conv => arg 2; whnf
  apply wp_seq_k
  intro KA hKA
  have HKA := Lib.hid hKA
  clear hKA
  go_wp2_with fail
  refine HKA.out _ _ ?_
  apply wp_seq_k
  intro KB hKB
  have HKB := Lib.hid hKB
  clear hKB
  go_wp2_with (go_at_call 11; (with_reducible refine HD.out.mono ?_); rintro e W1 ⟨rfl, F1, hO1⟩; have HO1 := Lib.hid hO1; clear hO1; try dsimp only)
  refine HKB.out _ _ ?_
  apply wp_seq_k
  intro KC hKC
  have HKC := Lib.hid hKC
  clear hKC
  go_upto_if 137 with (fail)
  refine wp_cond_true (by go_simp) ?_
  apply wp_seq_k
  intro KD hKD
  have HKD := Lib.hid hKD
  clear hKD
  go_wp2_with fail
  refine HKD.out _ _ ?_
  have hxb : (W1.alloc (.cells #[.int .i64 i0, .int .i64 i1, .bool i2] 35 (0, 0))).heap[W1.heap.size]? = some (.cells #[.int .i64 i0, .int .i64 i1, .bool i2] 35 (0, 0)) := heap_alloc_one W1 _
  have HO2 := Lib.hid (HO1.out.below (bAl (bRef W1) (.cells #[.int .i64 i0, .int .i64 i1, .bool i2] 35 (0, 0))))
  have hls := HO2.out.lst
  have htg := HO2.out.targ
  rw [HNT.out] at hls htg
  have HSS : Hid ((W1.alloc (.cells #[.int .i64 i0, .int .i64 i1, .bool i2] 35 (0, 0))).drew.cell? ⟨w.heap.size, 0, none⟩ = some (.int .i64 b) ∧ (W1.alloc (.cells #[.int .i64 i0, .int .i64 i1, .bool i2] 35 (0, 0))).drew.cell? ⟨w.heap.size, 1, none⟩ = some (.int .i64 cy) ∧ (W1.alloc (.cells #[.int .i64 i0, .int .i64 i1, .bool i2] 35 (0, 0))).drew.cell? ⟨w.heap.size, 2, none⟩ = some (.slice sp nt sc) ∧ (W1.alloc (.cells #[.int .i64 i0, .int .i64 i1, .bool i2] 35 (0, 0))).drew.cell? ⟨W1.heap.size, 1, none⟩ = some (.int .i64 i1)) := Lib.hid ⟨cell_of_row _ _ _ _ _ _ hls, cell_of_row _ _ _ _ _ _ hls, cell_of_row _ _ _ _ _ _ hls, cell_of_row _ _ _ _ _ _ hxb⟩
  have bDrw : Below (W1.alloc (.cells #[.int .i64 i0, .int .i64 i1, .bool i2] 35 (0, 0))).heap.size (W1.alloc (.cells #[.int .i64 i0, .int .i64 i1, .bool i2] 35 (0, 0))) (W1.alloc (.cells #[.int .i64 i0, .int .i64 i1, .bool i2] 35 (0, 0))).drew := ⟨rfl, rfl, rfl, Nat.le_refl _, fun _ _ => rfl⟩
  have HT := Lib.hid (htg.below bDrw)
  have HBD := Lib.hid bDrw
  clear hls htg hxb bDrw
  apply wp_seq_k
  intro KE hKE
  have HKE := Lib.hid hKE
  clear hKE
  apply wp_seq_k
  intro KF hKF
  have HKF := Lib.hid hKF
  clear hKF
  refine wp_region_held_drew (S := fun V => V.cell? ⟨w.heap.size, 0, none⟩ = some (.int .i64 b) ∧ V.cell? ⟨w.heap.size, 1, none⟩ = some (.int .i64 cy) ∧ V.cell? ⟨w.heap.size, 2, none⟩ = some (.slice sp nt sc) ∧ V.cell? ⟨W1.heap.size, 1, none⟩ = some (.int .i64 i1)) (by kernel_rfl) HSS.out (fun h0 => ?_)
  refine hTakeS (i := 0) (k := 140) (v := .agg #[.int .i64 b, .int .i64 cy, .slice sp nt sc]) rfl rfl (by kernel_rfl) (by kernel_rfl) (by kernel_rfl) (fun cx ax wx hx => HP.out cx ax _ _ wx hx) (.inl ⟨by rfl, fun W hW => by obtain ⟨s0, s1, s2, s3⟩ := hW; go_simp⟩) h0 ?_
  simp only [List.setIfInBounds_toArray, List.set_cons_zero, List.set_cons_succ]
  refine hTakeS (i := 1) (k := 141) (v := .int .i64 m) rfl rfl (by kernel_rfl) (by kernel_rfl) (by kernel_rfl) (fun cx ax wx hx => HP.out cx ax _ _ wx hx) (yieldsIf_val (by rfl) (by intro W; go_simp)) h0 ?_
  simp only [List.setIfInBounds_toArray, List.set_cons_zero, List.set_cons_succ]
  refine hTakeS (i := 2) (k := 142) (v := .int .i64 (d : Int)) rfl rfl (by kernel_rfl) (by kernel_rfl) (by kernel_rfl) (fun cx ax wx hx => HP.out cx ax _ _ wx hx) (yieldsIf_val (by rfl) (by intro W; go_simp)) h0 ?_
  simp only [List.setIfInBounds_toArray, List.set_cons_zero, List.set_cons_succ]
  refine hTakeS (i := 4) (k := 144) (v := .pointer (some ⟨W1.heap.size, 1, none⟩)) rfl rfl (by kernel_rfl) (by kernel_rfl) (by kernel_rfl) (fun cx ax wx hx => HP.out cx ax _ _ wx hx) (yieldsIf_val (by rfl) (by intro W; go_simp)) h0 ?_
  simp only [List.setIfInBounds_toArray, List.set_cons_zero, List.set_cons_succ]
  refine hTakeS (i := 5) (k := 145) (v := .int .i64 i1) rfl rfl (by kernel_rfl) (by kernel_rfl) (by kernel_rfl) (fun cx ax wx hx => HP.out cx ax _ _ wx hx) (.inl ⟨by rfl, fun W hW => by obtain ⟨s0, s1, s2, s3⟩ := hW; go_simp⟩) h0 ?_
  simp only [List.setIfInBounds_toArray, List.set_cons_zero, List.set_cons_succ]
  refine hTakeS (i := 6) (k := 146) (v := .int .i64 (8 * i1)) rfl rfl (by kernel_rfl) (by kernel_rfl) (by kernel_rfl) (fun cx ax wx hx => HP.out cx ax _ _ wx hx) (yieldsIf_val (by rfl) (by intro W; go_simp)) h0 ?_
  simp only [List.setIfInBounds_toArray, List.set_cons_zero, List.set_cons_succ]
  refine hCallR (i := 3) (k := 143) (by kernel_rfl) rfl rfl (by rfl) 26 #[.agg #[.int .i64 b, .int .i64 cy, .slice sp nt sc], .int .i64 m, .int .i64 (d : Int)] (by go_simp) (HL.out _ HT.out) ?_
  rintro e W3 ⟨rfl, hb3⟩
  have HB3 := Lib.hid hb3
  have HS3 : Hid (W3.cell? ⟨w.heap.size, 0, none⟩ = some (.int .i64 b) ∧ W3.cell? ⟨w.heap.size, 1, none⟩ = some (.int .i64 cy) ∧ W3.cell? ⟨w.heap.size, 2, none⟩ = some (.slice sp nt sc) ∧ W3.cell? ⟨W1.heap.size, 1, none⟩ = some (.int .i64 i1)) := Lib.hid ⟨(HB3.out.cell (block_lt_cell HSS.out.1)).trans HSS.out.1, (HB3.out.cell (block_lt_cell HSS.out.2.1)).trans HSS.out.2.1, (HB3.out.cell (block_lt_cell HSS.out.2.2.1)).trans HSS.out.2.2.1, (HB3.out.cell (block_lt_cell HSS.out.2.2.2)).trans HSS.out.2.2.2⟩
  clear hb3
  refine ⟨_, rfl, HS3.out, ?_⟩
  simp only [List.setIfInBounds_toArray, List.set_cons_zero, List.set_cons_succ]
  refine hTakeS (i := 7) (k := 147) (v := .bool false) rfl rfl (by kernel_rfl) (by kernel_rfl) (by kernel_rfl) (fun cx ax wx hx => HP.out cx ax _ _ wx hx) (yieldsIf_val (by rfl) (by intro W; go_simp)) HS3.out ?_
  simp only [List.setIfInBounds_toArray, List.set_cons_zero, List.set_cons_succ]
  refine wpAnyH_done (by kernel_rfl) ?_ _
  refine HKF.out _ _ ?_
  have y1 := HS3.out.2.2.2
  clear dl
  go_upto_if 147 with (fail)
  refine wp_cond_false (by go_simp) ?_
  go_step
  refine HKE.out _ _ ?_
  go_wp2_with fail
  refine HKC.out _ _ ?_
  go_wp2_with fail
  rw [HEA.out, HEP.out]
  exact hQ.out _ _ _ _ _ _ _ _ _ _ _ _ _ _ _ _ _ _ _ _ _ _ _ _ _ _ _ _ _ _ _ _ (HO2.out.below (HBD.out.trans (HB3.out.mono HBD.out.size)))

end Go.Proofs.Ytllmfkodgalklaa
