/- PortOpen in parts: no class that could go out is passed over. Written by gen_poopen.py. -/
import Derived.Test.YtllmfkodgalklaaPoOpC
namespace Go.Proofs.Ytllmfkodgalklaa
open Go.RowKit Go.Joins Go.Deep

def ClsRel (W : World) (kv : Value) (wr : World) : Prop := ∃ (j : Nat) (e : Int), kv = .int .i64 e ∧ e = (j : Int) - 1 ∧ j ≤ 8 ∧ Below W.heap.size W wr
set_option maxRecDepth 1000000 in
set_option maxHeartbeats 16000000 in
theorem rn_cls {w W : World} {k P hb : Nat} {b cy : Int} {sl : Value} {ts : List (Int × Int)} {F : Nat → Prop} {s : LS} {H : Nat → List Int} {vs : Nat → Value} {now cv : Int} {okb : Bool} {a0 a1 a3 a4 a5 a6 a9 a10 a11 a12 a13 a16 a17 a18 a19 a20 a21 a22 a23 a24 a25 a26 a27 a28 a29 a30 a31 a32 a33 a34 a35 a36 a37 a38 a39 a40 a41 a42 a43 a44 a45 a46 a47 a48 a49 a50 a51 a52 a53 a54 a55 a56 a57 a58 a59 a60 a61 a62 a63 a64 a65 a66 a67 a68 a69 a70 a71 a72 a73 a74 a75 a76 a77 a78 a79 a80 a81 a82 a83 a84 a85 a86 a87 a88 a89 a90 a91 a92 a93 a94 a95 a96 a97 a98 a99 a100 a101 a102 a103 a104 a105 a106 a107 a108 a109 a110 a111 a112 a113 a114 a115 a116 a117 a118 a119 a120 a121 a122 a123 a124 a125 a126 a127 a128 a129 a130 a131 a132 a133 a134 a135 a136 a137 a138 a139 a140 a141 a142 a143 a144 a145 a146 a147 a148 a149 a150 a151 a152 a153 a154 a155 a156 : Value} {Q0 : Exit → Act → World → Prop}
    (h : OpS w k P hb b cy sl ts F s H vs W) (hsz : ∀ d, d < 8 → ∀ x ∈ H d, 0 ≤ x ∧ x ≤ 1600) (hgo : ∀ d, d < 8 → ∀ x T, H d = x :: T → 8 * x ≤ leftV b cy ts now (d : Int) → okb = true ∧ (d : Int) ≤ cv)
    (hP : ∀ c (ax : Act) (kx : Option Nat) (vx : Value) (wx : World), Q0 (.panic c) (ax.put kx vx) wx → Q0 (.panic c) ax wx)
    (hQ : ∀ (z4 z16 z17 z83 z84 z85 z86 z87 z88 z89 z90 z91 z92 z93 z94 z95 z96 z97 z98 z99 z100 z101 z102 z103 z104 z105 z106 z107 z108 z109 z110 z111 z112 z113 z114 : Value) (W' : World), Below W.heap.size W W' → Q0 .normal ⟨#[a0, a1, .pointer (some ⟨w.heap.size, 0, none⟩), a3, z4, a5, a6, .pointer (some ⟨hb, 0, none⟩), .int .i64 now, a9, a10, a11, a12, a13, .int .i64 cv, .bool okb, z16, z17, a18, a19, a20, a21, a22, a23, a24, a25, a26, a27, a28, a29, a30, a31, a32, a33, a34, a35, a36, a37, a38, a39, a40, a41, a42, a43, a44, a45, a46, a47, a48, a49, a50, a51, a52, a53, a54, a55, a56, a57, a58, a59, a60, a61, a62, a63, a64, a65, a66, a67, a68, a69, a70, a71, a72, a73, a74, a75, a76, a77, a78, a79, a80, a81, a82, z83, z84, z85, z86, z87, z88, z89, z90, z91, z92, z93, z94, z95, z96, z97, z98, z99, z100, z101, z102, z103, z104, z105, z106, z107, z108, z109, z110, z111, z112, z113, z114, a115, a116, a117, a118, a119, a120, a121, a122, a123, a124, a125, a126, a127, a128, a129, a130, a131, a132, a133, a134, a135, a136, a137, a138, a139, a140, a141, a142, a143, a144, a145, a146, a147, a148, a149, a150, a151, a152, a153, a154, a155, a156], []⟩ W') :
    Code.wp Try.prog (partOf 20 1) Q0 ⟨#[a0, a1, .pointer (some ⟨w.heap.size, 0, none⟩), a3, a4, a5, a6, .pointer (some ⟨hb, 0, none⟩), .int .i64 now, a9, a10, a11, a12, a13, .int .i64 cv, .bool okb, a16, a17, a18, a19, a20, a21, a22, a23, a24, a25, a26, a27, a28, a29, a30, a31, a32, a33, a34, a35, a36, a37, a38, a39, a40, a41, a42, a43, a44, a45, a46, a47, a48, a49, a50, a51, a52, a53, a54, a55, a56, a57, a58, a59, a60, a61, a62, a63, a64, a65, a66, a67, a68, a69, a70, a71, a72, a73, a74, a75, a76, a77, a78, a79, a80, a81, a82, a83, a84, a85, a86, a87, a88, a89, a90, a91, a92, a93, a94, a95, a96, a97, a98, a99, a100, a101, a102, a103, a104, a105, a106, a107, a108, a109, a110, a111, a112, a113, a114, a115, a116, a117, a118, a119, a120, a121, a122, a123, a124, a125, a126, a127, a128, a129, a130, a131, a132, a133, a134, a135, a136, a137, a138, a139, a140, a141, a142, a143, a144, a145, a146, a147, a148, a149, a150, a151, a152, a153, a154, a155, a156], []⟩ W := by
  replace hQ := Lib.hid hQ
  have HO := Lib.hid h
  have HZ := Lib.hid hsz
  have HG := Lib.hid hgo
  have HP := Lib.hid hP
  clear h hsz hgo hP
  conv => arg 2; whnf
  go_wp2_with fail
  go_loopw [16] (fun kv wr => ClsRel W kv wr) (fun kv _ => (intOf kv + 1).toNat)
  case atStart => exact ⟨8, 7, rfl, by omega, by omega, Below.refl _ _⟩
  case round =>
    obtain ⟨j, e, rfl, he, hj, hb⟩ := hrel
    have HB := Lib.hid hb
    clear hb
    rcases Nat.eq_zero_or_pos j with g | g
    · obtain rfl : e = -1 := by omega
      clear he g hj
      go_wp2_with fail
      exact hQ.out _ _ _ _ _ _ _ _ _ _ _ _ _ _ _ _ _ _ _ _ _ _ _ _ _ _ _ _ _ _ _ _ _ _ _ _ HB.out
    · obtain ⟨d, rfl⟩ : ∃ d, j = d + 1 := ⟨j - 1, by omega⟩
      obtain rfl : e = (d : Int) := by omega
      have d0 : decide ((0 : Int) ≤ (d : Int)) = true := decide_eq_true (by omega)
      have HD8 : Hid (d < 8) := Lib.hid (by omega)
      clear he g hj
      refine wp_hideP (fun cx ax kx vx wx hx => HP.out cx ax kx vx wx hx) (fun Q2 hQ2 hP2 => ?_)
      have HQ2 := Lib.hid hQ2
      have HP2 := Lib.hid hP2
      clear hQ2 hP2
      go_upto_if 84 with (fail)
      refine wp_cond_true (by go_simp) ?_
      go_step
      go_step
      go_step
      clear d0
      apply wp_seq_k
      intro K hK
      refine rn_goes (HO.out.below HB.out) HD8.out (HZ.out d HD8.out) (HG.out d HD8.out) (fun cx ax kx vx wx hx => HP2.out cx ax kx vx wx hx) ?_
      intro z4 z17 z87 z88 z89 z90 z91 z92 z93 z94 z95 z96 z97 z98 z99 z100 z101 z102 z103 z104 z105 z106 z107 z108 z109 z110 z111 z112 z113 z114 W1 hb1
      refine hK _ _ ?_
      have HB1 := Lib.hid (bTr HB.out hb1)
      have ec : Hid (wrap64 ((d : Int) - 1) = (d : Int) - 1) := Lib.hid (by have := HD8.out; unfold wrap64; omega)
      clear hb1 hK
      go_wp2_with fail
      refine HQ2.out _ _ _ ?_
      dsimp only [Exit.then]
      refine ⟨?_, ?_⟩
      · (repeat apply Exists.intro)
        refine ⟨?_, rfl⟩
        exact ⟨d, _, rfl, ec.out, by have := HD8.out; omega, HB1.out⟩
      · have := ec.out
        simp [intOf, this]
        try omega

end Go.Proofs.Ytllmfkodgalklaa
