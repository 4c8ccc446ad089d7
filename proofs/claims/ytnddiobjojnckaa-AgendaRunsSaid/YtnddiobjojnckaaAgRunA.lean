/- AgendaRuns in parts: which has the number, which is the best, what goes leaves the row. Written by gen_agrun.py. -/
import Derived.Test.YtnddiobjojnckaaAgRunP
import Derived.Deep.CutRange
import Derived.Deep.QuietTactic
namespace Go.Proofs.Ytnddiobjojnckaa
open Go.RowKit Go.Joins Go.Deep

/-- The first region of a code. -/
def firstReg : Code → Option Nat
  | .region n _ _ => some n
  | .seq a _ => firstReg a
  | .block _ c => firstReg c
  | .loop c => firstReg c
  | .scope c => firstReg c
  | _ => none
/-- The parts that begin with a region, the largest first. -/
def partsAt (n : Nat) : Code → List Code
  | .seq a b => (if firstReg (.seq a b) = some n then [.seq a b] else []) ++ (partsAt n a ++ partsAt n b)
  | .block i c => (if firstReg c = some n then [.block i c] else []) ++ partsAt n c
  | .loop c => (if firstReg c = some n then [.loop c] else []) ++ partsAt n c
  | .scope c => (if firstReg c = some n then [.scope c] else []) ++ partsAt n c
  | .cond _ a b => partsAt n a ++ partsAt n b
  | .region m o d => if m = n then [.region m o d] else []
  | _ => []
noncomputable def partOf (n i : Nat) : Code := (Try.f3.body.map fun c => (partsAt n c).getD i .skip).getD .skip

theorem wp_hideP {P : Program} {c : Code} {Q : Exit → Act → World → Prop} {a : Act} {w : World} (hP : ∀ c (ax : Act) (kx : Option Nat) (vx : Value) (wx : World), Q (.panic c) (ax.put kx vx) wx → Q (.panic c) ax wx)
    (h : ∀ Q' : Exit → Act → World → Prop, (∀ e a w, Q e a w → Q' e a w) → (∀ c (ax : Act) (kx : Option Nat) (vx : Value) (wx : World), Q' (.panic c) (ax.put kx vx) wx → Q' (.panic c) ax wx) → c.wp P Q' a w) : c.wp P Q a w := h Q (fun _ _ _ q => q) hP
/-- What is known of the first k. -/
def FindSt (x : Int) (L : List It) (k : Nat) (a : Int) : Prop := (a = -1 ∧ ∀ j, j < k → (it L j).2.1 ≠ x) ∨ ∃ j : Nat, j < k ∧ a = (j : Int) ∧ (it L j).2.1 = x
def FindRel (W : World) (x : Int) (L : List It) (m : Nat) (av kv : Value) (wr : World) : Prop := ∃ (a : Int) (k : Nat), av = .int .i64 a ∧ kv = .int .i64 (k : Int) ∧ k ≤ m ∧ Below W.heap.size W wr ∧ FindSt x L k a
set_option maxRecDepth 1000000 in
set_option maxHeartbeats 16000000 in
theorem rn_find {W : World} {B b m c4 : Nat} {kk x y z : Int} {L : List It} {p4 : Option Addr} {a0 a1 a2 a3 a5 a6 a7 a9 a10 a12 a13 a14 a15 a16 a17 a18 a19 a20 a21 a22 a23 a24 a25 a26 a27 a28 a29 a30 a31 a32 a33 a34 a35 a36 a37 a38 a39 a40 a41 a42 a43 a44 a45 a46 a47 a48 a49 a50 a51 a52 a53 a54 a55 a56 a57 a58 a59 a60 a61 a62 a63 a64 a65 a66 a67 a68 a69 a70 a71 a72 a73 a74 a75 a76 a77 a78 a79 a80 a81 a82 a83 a84 a85 a86 a87 a88 a89 a90 a91 a92 a93 a94 a95 a96 a97 a98 a99 a100 a101 a102 a103 a104 a105 a106 a107 a108 a109 a110 a111 a112 a113 a114 a115 a116 a117 a118 a119 a120 a121 a122 a123 a124 a125 a126 a127 a128 a129 a130 a131 a132 a133 a134 a135 a136 a137 a138 a139 a140 a141 a142 a143 a144 a145 a146 a147 a148 a149 a150 a151 a152 a153 a154 a155 a156 a157 a158 a159 a160 a161 a162 a163 a164 a165 a166 a167 a168 a169 a170 a171 a172 a173 a174 a175 a176 a177 a178 a179 a180 a181 a182 a183 a184 a185 a186 a187 a188 a189 a190 a191 a192 a193 a194 a195 a196 a197 a198 a199 a200 a201 a202 a203 a204 a205 a206 a207 a208 a209 a210 a211 a212 a213 a214 a215 a216 a217 a218 a219 a220 a221 a222 a223 a224 a225 a226 a227 a228 a229 a230 a231 a232 a233 a234 a235 a236 a237 a238 a239 a240 a241 a242 a243 a244 a245 a246 a247 a248 a249 a250 a251 a252 a253 a254 a255 : Value} {Q0 : Exit → Act → World → Prop}
    (hI : Its B W (.slice p4 m c4) L) (hm : L.length = m) (hm2 : m ≤ 120) (hO : OBox W b kk x y z)
    (hQ : ∀ (z12 z88 z89 z90 z91 z92 z93 z94 z95 z96 z97 z98 z99 z100 z101 z102 : Value) (a : Int) (W' : World), FindSt x L m a → Below W.heap.size W W' → Q0 .normal ⟨#[a0, a1, a2, a3, .slice p4 m c4, a5, a6, a7, .pointer (some ⟨b, 0, none⟩), a9, a10, .int .i64 a, z12, a13, a14, a15, a16, a17, a18, a19, a20, a21, a22, a23, a24, a25, a26, a27, a28, a29, a30, a31, a32, a33, a34, a35, a36, a37, a38, a39, a40, a41, a42, a43, a44, a45, a46, a47, a48, a49, a50, a51, a52, a53, a54, a55, a56, a57, a58, a59, a60, a61, a62, a63, a64, a65, a66, a67, a68, a69, a70, a71, a72, a73, a74, a75, a76, a77, a78, a79, a80, a81, a82, a83, a84, a85, a86, a87, z88, z89, z90, z91, z92, z93, z94, z95, z96, z97, z98, z99, z100, z101, z102, a103, a104, a105, a106, a107, a108, a109, a110, a111, a112, a113, a114, a115, a116, a117, a118, a119, a120, a121, a122, a123, a124, a125, a126, a127, a128, a129, a130, a131, a132, a133, a134, a135, a136, a137, a138, a139, a140, a141, a142, a143, a144, a145, a146, a147, a148, a149, a150, a151, a152, a153, a154, a155, a156, a157, a158, a159, a160, a161, a162, a163, a164, a165, a166, a167, a168, a169, a170, a171, a172, a173, a174, a175, a176, a177, a178, a179, a180, a181, a182, a183, a184, a185, a186, a187, a188, a189, a190, a191, a192, a193, a194, a195, a196, a197, a198, a199, a200, a201, a202, a203, a204, a205, a206, a207, a208, a209, a210, a211, a212, a213, a214, a215, a216, a217, a218, a219, a220, a221, a222, a223, a224, a225, a226, a227, a228, a229, a230, a231, a232, a233, a234, a235, a236, a237, a238, a239, a240, a241, a242, a243, a244, a245, a246, a247, a248, a249, a250, a251, a252, a253, a254, a255], []⟩ W') :
    Code.wp Try.prog (partOf 28 1) Q0 ⟨#[a0, a1, a2, a3, .slice p4 m c4, a5, a6, a7, .pointer (some ⟨b, 0, none⟩), a9, a10, .int .i64 (-1), a12, a13, a14, a15, a16, a17, a18, a19, a20, a21, a22, a23, a24, a25, a26, a27, a28, a29, a30, a31, a32, a33, a34, a35, a36, a37, a38, a39, a40, a41, a42, a43, a44, a45, a46, a47, a48, a49, a50, a51, a52, a53, a54, a55, a56, a57, a58, a59, a60, a61, a62, a63, a64, a65, a66, a67, a68, a69, a70, a71, a72, a73, a74, a75, a76, a77, a78, a79, a80, a81, a82, a83, a84, a85, a86, a87, a88, a89, a90, a91, a92, a93, a94, a95, a96, a97, a98, a99, a100, a101, a102, a103, a104, a105, a106, a107, a108, a109, a110, a111, a112, a113, a114, a115, a116, a117, a118, a119, a120, a121, a122, a123, a124, a125, a126, a127, a128, a129, a130, a131, a132, a133, a134, a135, a136, a137, a138, a139, a140, a141, a142, a143, a144, a145, a146, a147, a148, a149, a150, a151, a152, a153, a154, a155, a156, a157, a158, a159, a160, a161, a162, a163, a164, a165, a166, a167, a168, a169, a170, a171, a172, a173, a174, a175, a176, a177, a178, a179, a180, a181, a182, a183, a184, a185, a186, a187, a188, a189, a190, a191, a192, a193, a194, a195, a196, a197, a198, a199, a200, a201, a202, a203, a204, a205, a206, a207, a208, a209, a210, a211, a212, a213, a214, a215, a216, a217, a218, a219, a220, a221, a222, a223, a224, a225, a226, a227, a228, a229, a230, a231, a232, a233, a234, a235, a236, a237, a238, a239, a240, a241, a242, a243, a244, a245, a246, a247, a248, a249, a250, a251, a252, a253, a254, a255], []⟩ W := by
  replace hQ := Lib.hid hQ
  have HI := Lib.hid hI
  have HO := Lib.hid hO
  have HM := Lib.hid hm
  clear hI hO hm
  conv => arg 2; whnf
  go_wp2_with fail
  go_loopw [11, 90] (fun av kv wr => FindRel W x L m av kv wr) (fun _ kv _ => m - (intOf kv).toNat)
  case atStart => exact ⟨-1, 0, rfl, rfl, by omega, Below.refl _ _, .inl ⟨rfl, fun j hj => by omega⟩⟩
  case round =>
    obtain ⟨a, k, rfl, rfl, hk, hb, hf⟩ := hrel
    rcases Nat.lt_or_ge k m with g | g
    · have d0 : decide ((k : Int) < (m : Int)) = true := decide_eq_true (by omega)
      have HF := Lib.hid hf
      have HB := Lib.hid hb
      obtain ⟨r, cap, e, _, _, _, hc⟩ := (HI.out.below hb).row (by have := HM.out; omega)
      injection e with e1 e2 e3
      subst e1
      subst e3
      obtain ⟨_, c2, _⟩ := hc k (by have := HM.out; omega)
      obtain ⟨_, o1, _⟩ := (OBox.kept HO.out (AgI.KeptT.of_below hb)).cells
      clear hb hf hc e2
      have ec : wrap64 ((k : Int) + 1) = ((k + 1 : Nat) : Int) := by unfold wrap64; omega
      have ek : IntKind.i64.wrap (k : Int) = (k : Int) := by rw [IntKind.wrap_i64]; omega
      obtain ⟨n, hn⟩ : ∃ n, (it L k).2.1 = n := ⟨_, rfl⟩
      rw [hn] at c2
      have HN := Lib.hid hn
      clear hn
      by_cases e : n = x
      · have d1 : (n == x) = true := beq_iff_eq.mpr e
        have HE := Lib.hid e
        clear e
        go_wp2_with fail
        go_quiet (fail)
        go_wp2_with fail
        go_roundw
        case rel => exact ⟨(k : Int), k + 1, rfl, by go_num, by omega, AgI.bDr HB.out _, .inr ⟨k, by omega, rfl, HN.out.trans HE.out⟩⟩
        case measure => simp [intOf]; omega
      · have d1 : (n == x) = false := beq_eq_false_iff_ne.mpr e
        have HE := Lib.hid e
        clear e
        go_wp2_with fail
        go_quiet (fail)
        go_wp2_with fail
        go_roundw
        case rel =>
          refine ⟨a, k + 1, rfl, by go_num, by omega, AgI.bDr HB.out _, ?_⟩
          rcases HF.out with ⟨h1, h2⟩ | ⟨j, h1, h2, h3⟩
          · refine .inl ⟨h1, fun j hj => ?_⟩
            rcases Nat.lt_or_ge j k with g2 | g2
            · exact h2 j g2
            · obtain rfl : j = k := by omega
              rw [HN.out]; exact HE.out
          · exact .inr ⟨j, by omega, h2, h3⟩
        case measure => simp [intOf]; omega
    · obtain rfl : k = m := by omega
      have d0 : decide ((k : Int) < (k : Int)) = false := decide_eq_false (by omega)
      have HF := Lib.hid hf
      have HB := Lib.hid hb
      clear hf hb
      go_wp2_with fail
      exact hQ.out _ _ _ _ _ _ _ _ _ _ _ _ _ _ _ _ _ _ HF.out HB.out
/-- The best one of the first k. -/
def BestSt (L : List It) (k : Nat) (a : Int) : Prop := (k = 0 ∧ a = -1) ∨ ∃ b : Nat, a = (b : Int) ∧ Best L k b
def BestRel (W : World) (L : List It) (m : Nat) (av kv : Value) (wr : World) : Prop := ∃ (a : Int) (k : Nat), av = .int .i64 a ∧ kv = .int .i64 (k : Int) ∧ k ≤ m ∧ Below W.heap.size W wr ∧ BestSt L k a
set_option maxRecDepth 1000000 in
set_option maxHeartbeats 16000000 in
theorem rn_best {W : World} {B b m c4 : Nat} {kk x y z : Int} {L : List It} {p4 : Option Addr} {a0 a1 a2 a3 a5 a6 a7 a9 a10 a11 a12 a14 a15 a16 a17 a18 a19 a20 a21 a22 a23 a24 a25 a26 a27 a28 a29 a30 a31 a32 a33 a34 a35 a36 a37 a38 a39 a40 a41 a42 a43 a44 a45 a46 a47 a48 a49 a50 a51 a52 a53 a54 a55 a56 a57 a58 a59 a60 a61 a62 a63 a64 a65 a66 a67 a68 a69 a70 a71 a72 a73 a74 a75 a76 a77 a78 a79 a80 a81 a82 a83 a84 a85 a86 a87 a88 a89 a90 a91 a92 a93 a94 a95 a96 a97 a98 a99 a100 a101 a102 a103 a104 a105 a106 a107 a108 a109 a110 a111 a112 a113 a114 a115 a116 a117 a118 a119 a120 a121 a122 a123 a124 a125 a126 a127 a128 a129 a130 a131 a132 a133 a134 a135 a136 a137 a138 a139 a140 a141 a142 a143 a144 a145 a146 a147 a148 a149 a150 a151 a152 a153 a154 a155 a156 a157 a158 a159 a160 a161 a162 a163 a164 a165 a166 a167 a168 a169 a170 a171 a172 a173 a174 a175 a176 a177 a178 a179 a180 a181 a182 a183 a184 a185 a186 a187 a188 a189 a190 a191 a192 a193 a194 a195 a196 a197 a198 a199 a200 a201 a202 a203 a204 a205 a206 a207 a208 a209 a210 a211 a212 a213 a214 a215 a216 a217 a218 a219 a220 a221 a222 a223 a224 a225 a226 a227 a228 a229 a230 a231 a232 a233 a234 a235 a236 a237 a238 a239 a240 a241 a242 a243 a244 a245 a246 a247 a248 a249 a250 a251 a252 a253 a254 a255 : Value} {Q0 : Exit → Act → World → Prop}
    (hI : Its B W (.slice p4 m c4) L) (hm : L.length = m) (hm2 : m ≤ 120) (hO : OBox W b kk x y z)
    (hQ : ∀ (z14 z125 z126 z127 z128 z129 z130 z131 z132 z133 z134 z135 z136 z137 z138 z139 z140 z141 z142 z143 z144 z145 z146 : Value) (a : Int) (W' : World), BestSt L m a → Below W.heap.size W W' → Q0 .normal ⟨#[a0, a1, a2, a3, .slice p4 m c4, a5, a6, a7, .pointer (some ⟨b, 0, none⟩), a9, a10, a11, a12, .int .i64 a, z14, a15, a16, a17, a18, a19, a20, a21, a22, a23, a24, a25, a26, a27, a28, a29, a30, a31, a32, a33, a34, a35, a36, a37, a38, a39, a40, a41, a42, a43, a44, a45, a46, a47, a48, a49, a50, a51, a52, a53, a54, a55, a56, a57, a58, a59, a60, a61, a62, a63, a64, a65, a66, a67, a68, a69, a70, a71, a72, a73, a74, a75, a76, a77, a78, a79, a80, a81, a82, a83, a84, a85, a86, a87, a88, a89, a90, a91, a92, a93, a94, a95, a96, a97, a98, a99, a100, a101, a102, a103, a104, a105, a106, a107, a108, a109, a110, a111, a112, a113, a114, a115, a116, a117, a118, a119, a120, a121, a122, a123, a124, z125, z126, z127, z128, z129, z130, z131, z132, z133, z134, z135, z136, z137, z138, z139, z140, z141, z142, z143, z144, z145, z146, a147, a148, a149, a150, a151, a152, a153, a154, a155, a156, a157, a158, a159, a160, a161, a162, a163, a164, a165, a166, a167, a168, a169, a170, a171, a172, a173, a174, a175, a176, a177, a178, a179, a180, a181, a182, a183, a184, a185, a186, a187, a188, a189, a190, a191, a192, a193, a194, a195, a196, a197, a198, a199, a200, a201, a202, a203, a204, a205, a206, a207, a208, a209, a210, a211, a212, a213, a214, a215, a216, a217, a218, a219, a220, a221, a222, a223, a224, a225, a226, a227, a228, a229, a230, a231, a232, a233, a234, a235, a236, a237, a238, a239, a240, a241, a242, a243, a244, a245, a246, a247, a248, a249, a250, a251, a252, a253, a254, a255], []⟩ W') :
    Code.wp Try.prog (partOf 41 1) Q0 ⟨#[a0, a1, a2, a3, .slice p4 m c4, a5, a6, a7, .pointer (some ⟨b, 0, none⟩), a9, a10, a11, a12, .int .i64 (-1), a14, a15, a16, a17, a18, a19, a20, a21, a22, a23, a24, a25, a26, a27, a28, a29, a30, a31, a32, a33, a34, a35, a36, a37, a38, a39, a40, a41, a42, a43, a44, a45, a46, a47, a48, a49, a50, a51, a52, a53, a54, a55, a56, a57, a58, a59, a60, a61, a62, a63, a64, a65, a66, a67, a68, a69, a70, a71, a72, a73, a74, a75, a76, a77, a78, a79, a80, a81, a82, a83, a84, a85, a86, a87, a88, a89, a90, a91, a92, a93, a94, a95, a96, a97, a98, a99, a100, a101, a102, a103, a104, a105, a106, a107, a108, a109, a110, a111, a112, a113, a114, a115, a116, a117, a118, a119, a120, a121, a122, a123, a124, a125, a126, a127, a128, a129, a130, a131, a132, a133, a134, a135, a136, a137, a138, a139, a140, a141, a142, a143, a144, a145, a146, a147, a148, a149, a150, a151, a152, a153, a154, a155, a156, a157, a158, a159, a160, a161, a162, a163, a164, a165, a166, a167, a168, a169, a170, a171, a172, a173, a174, a175, a176, a177, a178, a179, a180, a181, a182, a183, a184, a185, a186, a187, a188, a189, a190, a191, a192, a193, a194, a195, a196, a197, a198, a199, a200, a201, a202, a203, a204, a205, a206, a207, a208, a209, a210, a211, a212, a213, a214, a215, a216, a217, a218, a219, a220, a221, a222, a223, a224, a225, a226, a227, a228, a229, a230, a231, a232, a233, a234, a235, a236, a237, a238, a239, a240, a241, a242, a243, a244, a245, a246, a247, a248, a249, a250, a251, a252, a253, a254, a255], []⟩ W := by
  replace hQ := Lib.hid hQ
  have HI := Lib.hid hI
  have HO := Lib.hid hO
  have HM := Lib.hid hm
  clear hI hO hm
  conv => arg 2; whnf
  go_wp2_with fail
  go_loopw [13, 127] (fun av kv wr => BestRel W L m av kv wr) (fun _ kv _ => m - (intOf kv).toNat)
  case atStart => exact ⟨-1, 0, rfl, rfl, by omega, Below.refl _ _, .inl ⟨rfl, rfl⟩⟩
  case round =>
    obtain ⟨a, k, rfl, rfl, hk, hb, hf⟩ := hrel
    rcases Nat.lt_or_ge k m with g | g
    · have d0 : decide ((k : Int) < (m : Int)) = true := decide_eq_true (by omega)
      have HB := Lib.hid hb
      obtain ⟨r, cap, e, _, _, _, hc⟩ := (HI.out.below hb).row (by have := HM.out; omega)
      injection e with e1 e2 e3
      subst e1
      subst e3
      obtain ⟨c1, _, _⟩ := hc k (by have := HM.out; omega)
      have ec : wrap64 ((k : Int) + 1) = ((k + 1 : Nat) : Int) := by unfold wrap64; omega
      have ek : IntKind.i64.wrap (k : Int) = (k : Int) := by rw [IntKind.wrap_i64]; omega
      rcases hf with ⟨hk0, rfl⟩ | ⟨t, rfl, hbest⟩
      · have HK := Lib.hid hk0
        clear hb hc e2 hk0
        go_wp2_with fail
        go_quiet (fail)
        go_wp2_with fail
        go_roundw
        case rel => exact ⟨(k : Int), k + 1, rfl, by go_num, by omega, AgI.bDr HB.out _, .inr ⟨k, rfl, by rw [HK.out]; exact best_one L⟩⟩
        case measure => simp [intOf]; omega
      · obtain ⟨c3, _, _⟩ := hc t (by have := hbest.1; have := HM.out; omega)
        have d2 : decide ((t : Int) < 0) = false := decide_eq_false (by omega)
        have d3 : decide ((t : Int) < (m : Int)) = true := decide_eq_true (by have := hbest.1; omega)
        have g2 : t < m := by have := hbest.1; omega
        have et : IntKind.i64.wrap (t : Int) = (t : Int) := by rw [IntKind.wrap_i64]; have := hbest.1; omega
        have HX := Lib.hid (best_up hbest)
        obtain ⟨n, hn⟩ : ∃ n, (it L k).1 = n := ⟨_, rfl⟩
        obtain ⟨n2, hn2⟩ : ∃ n, (it L t).1 = n := ⟨_, rfl⟩
        rw [hn] at c1
        rw [hn2] at c3
        rw [hn, hn2] at HX
        clear hn hn2 hb hc e2 hbest
        by_cases e : n < n2
        · have d1 : decide (n < n2) = true := decide_eq_true e
          rw [if_pos e] at HX
          clear e
          go_wp2_with fail
          go_quiet (fail)
          go_wp2_with fail
          go_roundw
          case rel => exact ⟨(k : Int), k + 1, rfl, by go_num, by omega, AgI.bDr HB.out _, .inr ⟨k, rfl, HX.out⟩⟩
          case measure => simp [intOf]; omega
        · have d1 : decide (n < n2) = false := decide_eq_false e
          rw [if_neg e] at HX
          clear e
          go_wp2_with fail
          go_quiet (fail)
          go_wp2_with fail
          go_roundw
          case rel => exact ⟨(t : Int), k + 1, rfl, by go_num, by omega, AgI.bDr HB.out _, .inr ⟨t, rfl, HX.out⟩⟩
          case measure => simp [intOf]; omega
    · obtain rfl : k = m := by omega
      have d0 : decide ((k : Int) < (k : Int)) = false := decide_eq_false (by omega)
      have HF := Lib.hid hf
      have HB := Lib.hid hb
      clear hf hb
      go_wp2_with fail
      exact hQ.out _ _ _ _ _ _ _ _ _ _ _ _ _ _ _ _ _ _ _ _ _ _ _ _ _ HF.out HB.out

end Go.Proofs.Ytnddiobjojnckaa
