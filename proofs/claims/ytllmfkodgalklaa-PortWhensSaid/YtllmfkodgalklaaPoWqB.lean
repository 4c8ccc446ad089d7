/- PortWhens in parts: all frames are put. Written by gen_powhens.py. -/
import Derived.Test.YtllmfkodgalklaaPoWqA
namespace Go.Proofs.Ytllmfkodgalklaa
open Go.RowKit Go.Joins Go.Deep

structure ItRel (w : World) (k P n : Nat) (b cy : Int) (sl : Value) (ts : List (Int × Int)) (mv iv : Value) (wr : World) : Prop where
  ex : ∃ (i m : Nat) (s : LS) (F : Nat → Prop), iv = .int .i64 (i : Int) ∧ mv = .int .i64 (m : Int) ∧ i ≤ n ∧ m ≤ i ∧ s.tot 8 = m ∧ s.r = (fun _ => 100) ∧ WpS w k P b cy sl ts F s wr
set_option maxRecDepth 1000000 in
set_option maxHeartbeats 16000000 in
theorem rn_its {w W : World} {k P : Nat} {b cy : Int} {sl : Value} {ts : List (Int × Int)} {F : Nat → Prop} {s : LS} {p : Option Addr} {n cc : Nat} {a0 a2 a3 a4 a6 a8 a9 a10 a11 a12 a13 a14 a15 a16 a17 a18 a19 a20 a21 a22 a23 a24 a25 a26 a27 a28 a29 a30 a31 a32 a33 a34 a35 a36 a37 a38 a39 a40 a41 a42 a43 a44 a45 a46 a47 a48 a49 a50 a51 a52 a53 a54 a55 a56 a57 a58 a59 a60 a61 a62 a63 a64 a65 a66 a67 a68 a69 a70 a71 a72 a73 a74 a75 a76 a77 a78 a79 a80 a81 a82 a83 a84 a85 a86 a87 a88 a89 a90 a91 a92 a93 a94 a95 a96 a97 a98 a99 a100 a101 a102 a103 a104 a105 a106 a107 a108 a109 a110 a111 a112 a113 a114 a115 a116 a117 a118 a119 a120 a121 a122 a123 a124 a125 a126 a127 a128 a129 a130 a131 a132 a133 a134 a135 a136 a137 a138 a139 a140 a141 a142 a143 a144 a145 a146 a147 a148 a149 a150 a151 a152 a153 a154 a155 a156 a157 a158 a159 a160 a161 a162 a163 a164 a165 a166 a167 a168 a169 a170 a171 a172 a173 a174 a175 a176 a177 a178 a179 a180 a181 a182 a183 a184 a185 a186 a187 a188 a189 a190 a191 a192 a193 a194 a195 a196 a197 a198 a199 a200 a201 a202 : Value} {Q0 : Exit → Act → World → Prop}
    (h : WpS w k P b cy sl ts F s W) (hr : s.r = fun _ => 100) (ht : s.tot 8 = 0) (ha : SArg w (.slice p n cc) n) (hn : n ≤ 20)
    (hQ : ∀ (z4 z8 z9 z10 z57 z58 z59 z60 z61 z62 z63 z64 z65 z66 z67 z68 z69 z70 z71 z72 z73 z74 z75 z76 z77 z78 z79 z80 z81 z82 z83 z84 z85 z86 z87 z88 z89 z90 z91 z92 z93 z94 z95 z96 z97 : Value) (s' : LS) (F' : Nat → Prop) (m' : Nat) (W' : World), WpS w k P b cy sl ts F' s' W' → s'.tot 8 = m' → m' ≤ 20 → Q0 .normal ⟨#[a0, .slice p n cc, a2, a3, z4, .pointer (some ⟨k, 0, none⟩), a6, .int .i64 (m' : Int), z8, z9, z10, a11, a12, a13, a14, a15, a16, a17, a18, a19, a20, a21, a22, a23, a24, a25, a26, a27, a28, a29, a30, a31, a32, a33, a34, a35, a36, a37, a38, a39, a40, a41, a42, a43, a44, a45, a46, a47, a48, a49, a50, a51, a52, a53, a54, a55, a56, z57, z58, z59, z60, z61, z62, z63, z64, z65, z66, z67, z68, z69, z70, z71, z72, z73, z74, z75, z76, z77, z78, z79, z80, z81, z82, z83, z84, z85, z86, z87, z88, z89, z90, z91, z92, z93, z94, z95, z96, z97, a98, a99, a100, a101, a102, a103, a104, a105, a106, a107, a108, a109, a110, a111, a112, a113, a114, a115, a116, a117, a118, a119, a120, a121, a122, a123, a124, a125, a126, a127, a128, a129, a130, a131, a132, a133, a134, a135, a136, a137, a138, a139, a140, a141, a142, a143, a144, a145, a146, a147, a148, a149, a150, a151, a152, a153, a154, a155, a156, a157, a158, a159, a160, a161, a162, a163, a164, a165, a166, a167, a168, a169, a170, a171, a172, a173, a174, a175, a176, a177, a178, a179, a180, a181, a182, a183, a184, a185, a186, a187, a188, a189, a190, a191, a192, a193, a194, a195, a196, a197, a198, a199, a200, a201, a202], []⟩ W') :
    Code.wp Try.prog (partOf 9 1) Q0 ⟨#[a0, .slice p n cc, a2, a3, a4, .pointer (some ⟨k, 0, none⟩), a6, .int .i64 0, a8, a9, a10, a11, a12, a13, a14, a15, a16, a17, a18, a19, a20, a21, a22, a23, a24, a25, a26, a27, a28, a29, a30, a31, a32, a33, a34, a35, a36, a37, a38, a39, a40, a41, a42, a43, a44, a45, a46, a47, a48, a49, a50, a51, a52, a53, a54, a55, a56, a57, a58, a59, a60, a61, a62, a63, a64, a65, a66, a67, a68, a69, a70, a71, a72, a73, a74, a75, a76, a77, a78, a79, a80, a81, a82, a83, a84, a85, a86, a87, a88, a89, a90, a91, a92, a93, a94, a95, a96, a97, a98, a99, a100, a101, a102, a103, a104, a105, a106, a107, a108, a109, a110, a111, a112, a113, a114, a115, a116, a117, a118, a119, a120, a121, a122, a123, a124, a125, a126, a127, a128, a129, a130, a131, a132, a133, a134, a135, a136, a137, a138, a139, a140, a141, a142, a143, a144, a145, a146, a147, a148, a149, a150, a151, a152, a153, a154, a155, a156, a157, a158, a159, a160, a161, a162, a163, a164, a165, a166, a167, a168, a169, a170, a171, a172, a173, a174, a175, a176, a177, a178, a179, a180, a181, a182, a183, a184, a185, a186, a187, a188, a189, a190, a191, a192, a193, a194, a195, a196, a197, a198, a199, a200, a201, a202], []⟩ W := by
  replace hQ := Lib.hid hQ
  have HO := Lib.hid h
  have HR := Lib.hid hr
  have HT := Lib.hid ht
  have HA := Lib.hid ha
  have HN := Lib.hid hn
  clear h hr ht ha hn
  conv => arg 2; whnf
  go_wp2_with fail
  go_loopw [7, 59] (fun mv iv wr => ItRel w k P n b cy sl ts mv iv wr) (fun _ iv _ => n - (intOf iv).toNat)
  case atStart => exact ⟨⟨0, 0, _, _, rfl, rfl, by omega, by omega, HT.out, HR.out, HO.out⟩⟩
  case round =>
    obtain ⟨i, m, s1, F1, rfl, rfl, hin, hmi, htt, hrr, hst⟩ := hrel.ex
    have HST := Lib.hid hst
    have HTT := Lib.hid htt
    have HRR := Lib.hid hrr
    clear hst htt hrr
    rcases Nat.lt_or_ge i n with g | g
    · have d0 : decide ((i : Int) < (n : Int)) = true := decide_eq_true (by omega)
      obtain ⟨ab, ao, Fa, rfl, hab, hF⟩ := SArg.at HA.out (by omega)
      obtain ⟨hok, hc⟩ := hF i g
      obtain ⟨q2, c2, hsl⟩ := hok.arg.slice
      have hq := fun j hj => (HST.out.po.bel.cell (p := ⟨ab, ao + i * 9 + j, none⟩) hab).trans (hc j hj)
      have HQC := Lib.hid hq
      have HSL := Lib.hid hsl
      have HI : Hid (i < n ∧ i < 60 ∧ m ≤ i ∧ m < 60) := Lib.hid (by have := HN.out; omega)
      clear hF hc hq hok hsl hmi hin hab
      go_upto_if 60 with (fail)
      refine wp_cond_true (by go_simp) ?_
      go_step
      go_step
      go_step
      clear d0 g
      apply wp_seq_k
      intro K hK
      have h8s : wr.cell? ⟨ab, ao + i * 9 + 8, none⟩ = some (.slice q2 (Fa i).ts.length c2) := by
        rw [← HSL.out]
        exact HQC.out 8 (by omega)
      refine rn_it HST.out HRR.out HTT.out HI.out.2.2.2 HI.out.1 HI.out.2.1 (HQC.out 0 (by omega)) (HQC.out 1 (by omega)) (HQC.out 2 (by omega)) (HQC.out 3 (by omega)) (HQC.out 4 (by omega)) (HQC.out 5 (by omega)) (HQC.out 6 (by omega)) (HQC.out 7 (by omega)) h8s ?_
      intro z4 z8 z9 z10 z61 z62 z63 z64 z65 z66 z67 z68 z69 z70 z71 z72 z73 z74 z75 z76 z77 z78 z79 z80 z81 z82 z83 z84 z85 z86 z87 z88 z89 z90 z91 z92 z93 z94 z95 z96 s' F' m' W' hO h1 h2 h3
      refine hK _ _ ?_
      have HS2 := Lib.hid hO
      have HG := Lib.hid (And.intro h1 (And.intro h2 h3))
      have ec : wrap64 ((i : Int) + 1) = ((i + 1 : Nat) : Int) := by have := HI.out; unfold wrap64; omega
      clear hO hK h1 h2 h3 h8s
      go_wp2_with fail
      refine ⟨?_, ?_⟩
      · have g1 := HG.out
        have g2 := HI.out
        rw [ec]
        exact ⟨⟨i + 1, m', s', F', rfl, rfl, by omega, by omega, g1.2.1, g1.1.trans HRR.out, HS2.out⟩⟩
      · show n - (intOf (.int .i64 (wrap64 ((i : Int) + 1)))).toNat < n - (intOf (.int .i64 (i : Int))).toNat
        rw [ec]
        have := HI.out
        show n - ((i + 1 : Nat) : Int).toNat < n - (i : Int).toNat
        omega
    · obtain rfl : i = n := by omega
      have d0 : decide ((i : Int) < (i : Int)) = false := decide_eq_false (by omega)
      have HM : Hid (m ≤ 20) := Lib.hid (by have := HN.out; omega)
      clear hin hmi g
      go_wp2_with fail
      exact hQ.out _ _ _ _ _ _ _ _ _ _ _ _ _ _ _ _ _ _ _ _ _ _ _ _ _ _ _ _ _ _ _ _ _ _ _ _ _ _ _ _ _ _ _ _ _ _ _ _ _ HST.out HTT.out HM.out

end Go.Proofs.Ytllmfkodgalklaa
