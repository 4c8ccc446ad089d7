/- PortWhens in parts: the last loops. Written by gen_powhens.py. -/
import Derived.Test.YtllmfkodgalklaaPoWqG
namespace Go.Proofs.Ytllmfkodgalklaa
open Go.RowKit Go.Joins Go.Deep

structure InRel (W : World) (now : Int) (nt : Nat) (av jv : Value) (wr : World) : Prop where
  ex : ∃ (j : Nat) (at_ : Int), jv = .int .i64 (j : Int) ∧ av = .int .i64 at_ ∧ j ≤ 2 * nt + 2 ∧ now ≤ at_ ∧ at_ ≤ now + (j : Int) * 33600000 ∧ Below W.heap.size W wr
set_option maxRecDepth 1000000 in
set_option maxHeartbeats 16000000 in
theorem rn_in {w W : World} {k P d : Nat} {b cy now : Int} {sp : Option Addr} {nt sc : Nat} {ts : List (Int × Int)} {F : Nat → Prop} {s : LS} {z : It} {R : List It} {a0 a1 a3 a4 a6 a7 a8 a9 a10 a11 a12 a13 a14 a15 a16 a17 a18 a19 a20 a21 a24 a25 a26 a27 a28 a29 a30 a31 a32 a33 a34 a35 a36 a37 a38 a39 a40 a41 a42 a43 a44 a45 a46 a47 a48 a49 a50 a51 a52 a53 a54 a55 a56 a57 a58 a59 a60 a61 a62 a63 a64 a65 a66 a67 a68 a69 a70 a71 a72 a73 a74 a75 a76 a77 a78 a79 a80 a81 a82 a83 a84 a85 a86 a87 a88 a89 a90 a91 a92 a93 a94 a95 a96 a97 a98 a99 a100 a101 a102 a103 a104 a105 a106 a107 a108 a109 a110 a111 a112 a113 a114 a115 a116 a117 a118 a119 a120 a121 a122 a123 a124 a125 a126 a127 a128 a129 a130 a131 a132 a133 a134 a135 a136 a137 a138 a139 a140 a141 a142 a143 a144 a145 a146 a147 a148 a149 a150 a151 a152 a153 a154 a155 a156 a157 a158 a159 a160 a161 a162 a163 a164 a165 a166 a167 a168 a169 a170 a171 a172 a173 a174 a175 a176 a177 a178 a179 a180 a181 a182 a183 a184 a185 a186 a187 a188 a189 a190 a191 a192 a193 a194 a195 a196 a197 a198 a199 a200 a201 a202 : Value} {Q0 : Exit → Act → World → Prop}
    (h : WpS w k P b cy (.slice sp nt sc) ts F s W) (hnt : nt ≤ 64) (hz : chkV b cy ts = 0) (hc : cy ≤ 16777216) (hd8 : d < 8) (hq : s.q d = z :: R) (hnv : (∀ t, now ≤ t → t ≤ 1099511627775 → ∀ y, y < 8 → ¬ fits s (leftOf (PL.new b cy ts) t) y)) (n0 : 0 ≤ now) (n1 : now ≤ 300000000000)
    (hQ : ∀ (z4 z23 z24 z25 z26 z27 z164 z165 z166 z167 z168 z169 z170 z171 z172 z173 z174 z175 z176 z177 z178 z179 z180 z181 z182 z183 z184 z185 z186 z187 z188 z189 z190 z191 z192 z193 z194 z195 z196 z197 z198 z199 : Value) (W' : World), Below W.heap.size W W' → Q0 .normal ⟨#[a0, a1, .pointer (some ⟨w.heap.size, 0, none⟩), a3, z4, .pointer (some ⟨k, 0, none⟩), a6, a7, a8, a9, a10, a11, a12, a13, a14, a15, a16, a17, a18, a19, a20, a21, .int .i64 (d : Int), z23, z24, z25, z26, z27, a28, a29, a30, a31, a32, a33, a34, a35, a36, a37, a38, a39, a40, a41, a42, a43, a44, a45, a46, a47, a48, a49, a50, a51, a52, a53, a54, a55, a56, a57, a58, a59, a60, a61, a62, a63, a64, a65, a66, a67, a68, a69, a70, a71, a72, a73, a74, a75, a76, a77, a78, a79, a80, a81, a82, a83, a84, a85, a86, a87, a88, a89, a90, a91, a92, a93, a94, a95, a96, a97, a98, a99, a100, a101, a102, a103, a104, a105, a106, a107, a108, a109, a110, a111, a112, a113, a114, a115, a116, a117, a118, a119, a120, a121, a122, a123, a124, a125, a126, a127, a128, a129, a130, a131, a132, a133, a134, a135, a136, a137, a138, a139, a140, a141, a142, a143, a144, a145, a146, a147, a148, a149, a150, a151, a152, a153, a154, a155, a156, a157, a158, a159, a160, a161, a162, a163, z164, z165, z166, z167, z168, z169, z170, z171, z172, z173, z174, z175, z176, z177, z178, z179, z180, z181, z182, z183, z184, z185, z186, z187, z188, z189, z190, z191, z192, z193, z194, z195, z196, z197, z198, z199, a200, a201, a202], []⟩ W') :
    Code.wp Try.prog (partOf 44 0) Q0 ⟨#[a0, a1, .pointer (some ⟨w.heap.size, 0, none⟩), a3, a4, .pointer (some ⟨k, 0, none⟩), a6, a7, a8, a9, a10, a11, a12, a13, a14, a15, a16, a17, a18, a19, a20, a21, .int .i64 (d : Int), .int .i64 now, a24, a25, a26, a27, a28, a29, a30, a31, a32, a33, a34, a35, a36, a37, a38, a39, a40, a41, a42, a43, a44, a45, a46, a47, a48, a49, a50, a51, a52, a53, a54, a55, a56, a57, a58, a59, a60, a61, a62, a63, a64, a65, a66, a67, a68, a69, a70, a71, a72, a73, a74, a75, a76, a77, a78, a79, a80, a81, a82, a83, a84, a85, a86, a87, a88, a89, a90, a91, a92, a93, a94, a95, a96, a97, a98, a99, a100, a101, a102, a103, a104, a105, a106, a107, a108, a109, a110, a111, a112, a113, a114, a115, a116, a117, a118, a119, a120, a121, a122, a123, a124, a125, a126, a127, a128, a129, a130, a131, a132, a133, a134, a135, a136, a137, a138, a139, a140, a141, a142, a143, a144, a145, a146, a147, a148, a149, a150, a151, a152, a153, a154, a155, a156, a157, a158, a159, a160, a161, a162, a163, a164, a165, a166, a167, a168, a169, a170, a171, a172, a173, a174, a175, a176, a177, a178, a179, a180, a181, a182, a183, a184, a185, a186, a187, a188, a189, a190, a191, a192, a193, a194, a195, a196, a197, a198, a199, a200, a201, a202], []⟩ W := by
  replace hQ := Lib.hid hQ
  have HO := Lib.hid h
  have HH := Lib.hid (And.intro hz (And.intro hc (And.intro hd8 (And.intro hq hnv))))
  have HN := Lib.hid (And.intro n0 (And.intro n1 hnt))
  clear h hz hc hd8 hq hnv n0 n1 hnt
  conv => arg 2; whnf
  go_wp2_with fail
  go_loopw [23, 24] (fun av jv wr => InRel W now nt av jv wr) (fun _ jv _ => 2 * nt + 2 - (intOf jv).toNat)
  case atStart => exact ⟨⟨0, now, rfl, rfl, by omega, by omega, by omega, Below.refl _ _⟩⟩
  case round =>
    obtain ⟨j, at_, rfl, rfl, hj, ha0, ha1, hb⟩ := hrel.ex
    have HB := Lib.hid hb
    obtain ⟨l0, l1, l2⟩ := (HO.out.below hb).lst3
    have e1 : wrap64 (2 * (nt : Int)) = 2 * (nt : Int) := by have := HN.out; unfold wrap64; omega
    have e2 : wrap64 (2 * (nt : Int) + 2) = 2 * (nt : Int) + 2 := by have := HN.out; unfold wrap64; omega
    clear hb
    rcases Nat.lt_or_ge j (2 * nt + 2) with g | g
    · have d0 : decide ((j : Int) < 2 * (nt : Int) + 2) = true := decide_eq_true (by omega)
      have HJ : Hid (j < 2 * nt + 2 ∧ now ≤ at_ ∧ at_ ≤ now + (j : Int) * 33600000) := Lib.hid ⟨g, ha0, ha1⟩
      have HAT : Hid (at_ ≤ 400000000000) := Lib.hid (by have := HN.out; have : (j : Int) * 33600000 ≤ 132 * 33600000 := by omega
                                                         omega)
      clear hj ha0 ha1 g
      go_upto_if 170 with (fail)
      refine wp_cond_true (by go_simp) ?_
      go_step
      go_step
      go_step
      clear d0 e1 e2
      apply wp_seq_k
      intro K hK
      refine rn_nx (HO.out.below HB.out) HH.out.1 HH.out.2.1 HH.out.2.2.1 HH.out.2.2.2.1 HH.out.2.2.2.2 HN.out.1 HJ.out.2.1 HAT.out ?_ ?_
      · intro z4 z25 z26 z27 z173 z174 z175 z176 z177 z178 z179 z180 z181 z182 z183 z184 z185 z186 z187 z188 z189 z190 z191 z192 z193 z194 z195 z196 z197 z198 z199 W1 hb1
        have HB1 := Lib.hid (bTr HB.out hb1)
        clear hb1 hK
        go_wp2_with fail
        exact hQ.out _ _ _ _ _ _ _ _ _ _ _ _ _ _ _ _ _ _ _ _ _ _ _ _ _ _ _ _ _ _ _ _ _ _ _ _ _ _ _ _ _ _ _ HB1.out
      · intro z4 z25 z26 z27 z173 z174 z175 z176 z177 z178 z179 z180 z181 z182 z183 z184 z185 z186 z187 z188 z189 z190 z191 z192 z193 z194 z195 z196 z197 z198 z199 at2 W1 g1 g2 hb1
        refine hK _ _ ?_
        have HB1 := Lib.hid (bTr HB.out hb1)
        have HG := Lib.hid (And.intro g1 g2)
        have ec : wrap64 ((j : Int) + 1) = ((j + 1 : Nat) : Int) := by have := HJ.out; have := HN.out; unfold wrap64; omega
        clear hb1 hK g1 g2
        go_wp2_with fail
        refine ⟨?_, ?_⟩
        · rw [ec]
          exact ⟨⟨j + 1, at2, rfl, rfl, by have := HJ.out; omega, by have := HJ.out; have := HG.out; omega, by have := HJ.out; have := HG.out; omega, HB1.out⟩⟩
        · show 2 * nt + 2 - (intOf (.int .i64 (wrap64 ((j : Int) + 1)))).toNat < 2 * nt + 2 - (intOf (.int .i64 (j : Int))).toNat
          rw [ec]
          have := HJ.out
          show 2 * nt + 2 - ((j + 1 : Nat) : Int).toNat < 2 * nt + 2 - (j : Int).toNat
          omega
    · have d0 : decide ((j : Int) < 2 * (nt : Int) + 2) = false := decide_eq_false (by omega)
      clear hj ha0 ha1 g
      go_wp2_with fail
      exact hQ.out _ _ _ _ _ _ _ _ _ _ _ _ _ _ _ _ _ _ _ _ _ _ _ _ _ _ _ _ _ _ _ _ _ _ _ _ _ _ _ _ _ _ _ HB.out

structure OuRel (W : World) (dv : Value) (wr : World) : Prop where
  ex : ∃ d : Nat, dv = .int .i64 (d : Int) ∧ d ≤ 8 ∧ Below W.heap.size W wr
set_option maxRecDepth 1000000 in
set_option maxHeartbeats 16000000 in
theorem rn_ou {w W : World} {k P : Nat} {b cy now : Int} {sp : Option Addr} {nt sc : Nat} {ts : List (Int × Int)} {F : Nat → Prop} {s : LS} {a0 a1 a3 a4 a6 a7 a8 a9 a10 a12 a13 a14 a15 a16 a17 a18 a19 a20 a21 a22 a23 a24 a25 a26 a27 a28 a29 a30 a31 a32 a33 a34 a35 a36 a37 a38 a39 a40 a41 a42 a43 a44 a45 a46 a47 a48 a49 a50 a51 a52 a53 a54 a55 a56 a57 a58 a59 a60 a61 a62 a63 a64 a65 a66 a67 a68 a69 a70 a71 a72 a73 a74 a75 a76 a77 a78 a79 a80 a81 a82 a83 a84 a85 a86 a87 a88 a89 a90 a91 a92 a93 a94 a95 a96 a97 a98 a99 a100 a101 a102 a103 a104 a105 a106 a107 a108 a109 a110 a111 a112 a113 a114 a115 a116 a117 a118 a119 a120 a121 a122 a123 a124 a125 a126 a127 a128 a129 a130 a131 a132 a133 a134 a135 a136 a137 a138 a139 a140 a141 a142 a143 a144 a145 a146 a147 a148 a149 a150 a151 a152 a153 a154 a155 a156 a157 a158 a159 a160 a161 a162 a163 a164 a165 a166 a167 a168 a169 a170 a171 a172 a173 a174 a175 a176 a177 a178 a179 a180 a181 a182 a183 a184 a185 a186 a187 a188 a189 a190 a191 a192 a193 a194 a195 a196 a197 a198 a199 a200 a201 a202 : Value} {Q0 : Exit → Act → World → Prop}
    (h : WpS w k P b cy (.slice sp nt sc) ts F s W) (hnt : nt ≤ 64) (hz : chkV b cy ts = 0) (hc : cy ≤ 16777216) (hnv : (∀ t, now ≤ t → t ≤ 1099511627775 → ∀ y, y < 8 → ¬ fits s (leftOf (PL.new b cy ts) t) y)) (n0 : 0 ≤ now) (n1 : now ≤ 300000000000)
    (hQ : ∀ (z4 z22 z23 z24 z25 z26 z27 z155 z156 z157 z158 z159 z160 z161 z162 z163 z164 z165 z166 z167 z168 z169 z170 z171 z172 z173 z174 z175 z176 z177 z178 z179 z180 z181 z182 z183 z184 z185 z186 z187 z188 z189 z190 z191 z192 z193 z194 z195 z196 z197 z198 z199 : Value) (W' : World), Below W.heap.size W W' → Q0 .normal ⟨#[a0, a1, .pointer (some ⟨w.heap.size, 0, none⟩), a3, z4, .pointer (some ⟨k, 0, none⟩), a6, a7, a8, a9, a10, .int .i64 now, a12, a13, a14, a15, a16, a17, a18, a19, a20, a21, z22, z23, z24, z25, z26, z27, a28, a29, a30, a31, a32, a33, a34, a35, a36, a37, a38, a39, a40, a41, a42, a43, a44, a45, a46, a47, a48, a49, a50, a51, a52, a53, a54, a55, a56, a57, a58, a59, a60, a61, a62, a63, a64, a65, a66, a67, a68, a69, a70, a71, a72, a73, a74, a75, a76, a77, a78, a79, a80, a81, a82, a83, a84, a85, a86, a87, a88, a89, a90, a91, a92, a93, a94, a95, a96, a97, a98, a99, a100, a101, a102, a103, a104, a105, a106, a107, a108, a109, a110, a111, a112, a113, a114, a115, a116, a117, a118, a119, a120, a121, a122, a123, a124, a125, a126, a127, a128, a129, a130, a131, a132, a133, a134, a135, a136, a137, a138, a139, a140, a141, a142, a143, a144, a145, a146, a147, a148, a149, a150, a151, a152, a153, a154, z155, z156, z157, z158, z159, z160, z161, z162, z163, z164, z165, z166, z167, z168, z169, z170, z171, z172, z173, z174, z175, z176, z177, z178, z179, z180, z181, z182, z183, z184, z185, z186, z187, z188, z189, z190, z191, z192, z193, z194, z195, z196, z197, z198, z199, a200, a201, a202], []⟩ W') :
    Code.wp Try.prog (partOf 39 1) Q0 ⟨#[a0, a1, .pointer (some ⟨w.heap.size, 0, none⟩), a3, a4, .pointer (some ⟨k, 0, none⟩), a6, a7, a8, a9, a10, .int .i64 now, a12, a13, a14, a15, a16, a17, a18, a19, a20, a21, a22, a23, a24, a25, a26, a27, a28, a29, a30, a31, a32, a33, a34, a35, a36, a37, a38, a39, a40, a41, a42, a43, a44, a45, a46, a47, a48, a49, a50, a51, a52, a53, a54, a55, a56, a57, a58, a59, a60, a61, a62, a63, a64, a65, a66, a67, a68, a69, a70, a71, a72, a73, a74, a75, a76, a77, a78, a79, a80, a81, a82, a83, a84, a85, a86, a87, a88, a89, a90, a91, a92, a93, a94, a95, a96, a97, a98, a99, a100, a101, a102, a103, a104, a105, a106, a107, a108, a109, a110, a111, a112, a113, a114, a115, a116, a117, a118, a119, a120, a121, a122, a123, a124, a125, a126, a127, a128, a129, a130, a131, a132, a133, a134, a135, a136, a137, a138, a139, a140, a141, a142, a143, a144, a145, a146, a147, a148, a149, a150, a151, a152, a153, a154, a155, a156, a157, a158, a159, a160, a161, a162, a163, a164, a165, a166, a167, a168, a169, a170, a171, a172, a173, a174, a175, a176, a177, a178, a179, a180, a181, a182, a183, a184, a185, a186, a187, a188, a189, a190, a191, a192, a193, a194, a195, a196, a197, a198, a199, a200, a201, a202], []⟩ W := by
  replace hQ := Lib.hid hQ
  have HO := Lib.hid h
  have HH := Lib.hid (And.intro hz (And.intro hc hnv))
  have HN := Lib.hid (And.intro n0 (And.intro n1 hnt))
  clear h hz hc hnv n0 n1 hnt
  conv => arg 2; whnf
  go_wp2_with fail
  go_loopw [22] (fun dv wr => OuRel W dv wr) (fun dv _ => 8 - (intOf dv).toNat)
  case atStart => exact ⟨⟨0, rfl, by omega, Below.refl _ _⟩⟩
  case round =>
    obtain ⟨d, rfl, hd, hb⟩ := hrel.ex
    have HB := Lib.hid hb
    clear hb
    rcases Nat.lt_or_ge d 8 with g | g
    · have d0 : decide ((d : Int) < 8) = true := decide_eq_true (by omega)
      have HG := Lib.hid g
      have ec : wrap64 ((d : Int) + 1) = ((d + 1 : Nat) : Int) := by unfold wrap64; omega
      have EC := Lib.hid ec
      obtain ⟨q, hqe⟩ : ∃ q, (s.q d).length = q := ⟨_, rfl⟩
      have elen : s.len (d : Int) = (q : Int) := by unfold LS.len; rw [if_neg (by omega), show (d : Int).toNat = d by omega, hqe]
      have HLN : Hid (Calls Try.prog 16 #[.pointer (some ⟨k, 0, none⟩), .int .i64 (d : Int)] wr fun e w' => e = .returned (.int .i64 (q : Int)) ∧ w' = wr) := Lib.hid (by have kk := plen (HO.out.below HB.out).po (d : Int); rw [elen] at kk; exact kk)
      have HQE := Lib.hid hqe
      clear hd g hqe elen ec
      have fin : ∀ W1, Below wr.heap.size wr W1 → OuRel W (.int .i64 (wrap64 ((d : Int) + 1))) W1 ∧ 8 - (intOf (.int .i64 (wrap64 ((d : Int) + 1)))).toNat < 8 - (intOf (.int .i64 (d : Int))).toNat := fun W1 hb1 => by
        rw [EC.out]
        refine ⟨⟨⟨d + 1, rfl, by have := HG.out; omega, bTr HB.out hb1⟩⟩, ?_⟩
        have := HG.out
        show 8 - ((d + 1 : Nat) : Int).toNat < 8 - (d : Int).toNat
        omega
      have FIN := Lib.hid fin
      clear fin
      by_cases hq0 : q = 0
      · subst hq0
        go_wp2_with (go_at_call 16; (with_reducible refine HLN.out.mono ?_); rintro e W3 ⟨rfl, rfl⟩)
        exact FIN.out _ (Below.refl _ _)
      · obtain ⟨z, R, hzr⟩ : ∃ z R, s.q d = z :: R := by
          cases hs : s.q d with
          | nil => exact absurd (by rw [← HQE.out, hs]; rfl) hq0
          | cons z R => exact ⟨z, R, rfl⟩
        have dq : ((q : Int) == 0) = false := beq_eq_false_iff_ne.mpr (by omega)
        have HZR := Lib.hid hzr
        clear hq0 hzr
        go_upto_if 162 with (go_at_call 16; (with_reducible refine HLN.out.mono ?_); rintro e W3 ⟨rfl, rfl⟩)
        refine wp_cond_false (by go_simp) ?_
        go_step
        go_step
        go_step
        apply wp_seq_k
        intro KA hKA
        have HKA := Lib.hid hKA
        clear hKA
        go_wp2_with fail
        refine HKA.out _ _ ?_
        refine rn_in (HO.out.below HB.out) HN.out.2.2 HH.out.1 HH.out.2.1 HG.out HZR.out HH.out.2.2 HN.out.1 HN.out.2.1 ?_
        intro z4 z23 z24 z25 z26 z27 z164 z165 z166 z167 z168 z169 z170 z171 z172 z173 z174 z175 z176 z177 z178 z179 z180 z181 z182 z183 z184 z185 z186 z187 z188 z189 z190 z191 z192 z193 z194 z195 z196 z197 z198 z199 W1 hb1
        have HB1 := Lib.hid hb1
        clear hb1
        go_wp2_with fail
        exact FIN.out _ HB1.out
    · obtain rfl : d = 8 := by omega
      have d0 : decide (((8 : Nat) : Int) < 8) = false := by decide
      clear hd g
      go_wp2_with fail
      exact hQ.out _ _ _ _ _ _ _ _ _ _ _ _ _ _ _ _ _ _ _ _ _ _ _ _ _ _ _ _ _ _ _ _ _ _ _ _ _ _ _ _ _ _ _ _ _ _ _ _ _ _ _ _ _ HB.out

end Go.Proofs.Ytllmfkodgalklaa
