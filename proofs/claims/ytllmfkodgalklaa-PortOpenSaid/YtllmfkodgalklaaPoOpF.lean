/- PortOpen in parts: what goes out. Written by gen_poopen.py. -/
import Derived.Test.YtllmfkodgalklaaPoOpB
import Derived.Test.YtllmfkodgalklaaPoOpD
import Derived.Test.YtllmfkodgalklaaPoOpE
namespace Go.Proofs.Ytllmfkodgalklaa
open Go.RowKit Go.Joins Go.Deep

section
variable {w W W' : World} {k P hb : Nat} {b cy x : Int} {sl : Value} {ts : List (Int × Int)} {F : Nat → Prop} {s s' : LS} {H : Nat → List Int} {vs : Nat → Value}
theorem new_turn (b cy : Int) (ts : List (Int × Int)) (x : Int) : (PL.new b cy ts).turn x = PL.new b cy ts := by
  unfold PL.turn
  exact if_neg (fun h => by have := h.1; cases this)
theorem new_left (b cy : Int) (ts : List (Int × Int)) (x : Int) (d : Nat) : leftOf (PL.new b cy ts) x d = leftV b cy ts x (d : Int) := by
  unfold leftOf
  rw [new_turn]
  exact if_neg (by intro h; cases h)
theorem and_low' (n : Int) (k : Nat) (hk : k < 63) : bits .and .i64 n ((2 ^ k - 1 : Nat) : Int) = n % ((2 ^ k : Nat) : Int) := and_low n k hk
theorem low16 (n : Int) : bits .and .i64 n 65535 = n % 65536 := and_low n 16 (by omega)
theorem low1 (n : Int) : bits .and .i64 n 1 = n % 2 := and_low n 1 (by omega)
theorem heads_first {d : Nat} {y : Int} {T : List Int} (h : heads s d = y :: T) : ∃ z R, s.q d = z :: R ∧ z.2.1 = y ∧ R.map (·.2.1) = T := by
  unfold heads at h
  cases hq : s.q d with
  | nil => rw [hq] at h; cases h
  | cons z R =>
    rw [hq] at h
    injection h with h1 h2
    exact ⟨z, R, rfl, h1, h2⟩
theorem OpS.sizes (h : OpS w k P hb b cy sl ts F s (heads s) vs W) : ∀ d, d < 8 → ∀ x ∈ heads s d, 0 ≤ x ∧ x ≤ 1600 := fun d hd x hx => by
  obtain ⟨z, hz, rfl⟩ := List.mem_map.1 hx
  exact h.po.gd.sz d hd z hz
theorem OpS.next (h : OpS w k P hb b cy sl ts F s H vs W) (hx : inNow x) {cv i0 i1 : Int} {i2 ok : Bool} (hk : Picks P s (leftOf (PL.new b cy ts) x) cv (i0, i1, i2) ok s') : Calls Try.prog 11 #[.pointer (some ⟨k, 0, none⟩), .int .i64 x] W fun e w' => e = .returned (.tuple #[.agg #[.int .i64 i0, .int .i64 i1, .bool i2], .int .i64 cv, .bool ok]) ∧ ∃ F', OpS w k P hb b cy sl ts F' s' H vs w' :=
  (pnext_gen h.po h.po.bel.size x hx hk).mono fun e w' ⟨h1, h2⟩ => by
    rw [new_turn] at h2
    exact ⟨h1, h.turn h2⟩
end
set_option maxRecDepth 1000000 in
set_option maxHeartbeats 16000000 in
theorem rn_odd_a {w W : World} {k P hb : Nat} {b cy : Int} {sl : Value} {ts : List (Int × Int)} {F : Nat → Prop} {s : LS} {vs : Nat → Value} {tb : Nat} {now dd : Int} {a0 a1 a3 a4 a6 a9 a11 a12 a13 a14 a15 a16 a17 a18 a19 a20 a21 a22 a23 a24 a25 a26 a27 a28 a29 a30 a31 a32 a33 a34 a35 a36 a37 a38 a39 a40 a41 a42 a43 a44 a45 a46 a47 a48 a49 a50 a51 a52 a53 a54 a55 a56 a57 a58 a59 a60 a61 a62 a63 a64 a65 a66 a67 a68 a69 a70 a71 a72 a73 a74 a75 a76 a77 a78 a79 a80 a81 a82 a83 a84 a85 a86 a87 a88 a89 a90 a91 a92 a93 a94 a95 a96 a97 a98 a99 a100 a101 a102 a103 a104 a105 a106 a107 a108 a109 a110 a111 a112 a113 a114 a115 a116 a117 a118 a119 a120 a121 a122 a123 a124 a125 a126 a127 a128 a129 a130 a131 a132 a133 a134 a135 a136 a137 a138 a139 a140 a141 a142 a143 a144 a145 a146 a147 a148 a149 a150 a151 a152 a153 a154 a155 a156 : Value} {Q0 : Exit → Act → World → Prop}
    (h : OpS w k P hb b cy sl ts F s (heads s) vs W) (hn0 : 0 ≤ now) (hn1 : now ≤ 4000000) (t5 : W.cell? ⟨tb, 5, none⟩ = some (.int .i64 dd)) (hpk : Picks P s (leftOf (PL.new b cy ts) (now + dd % 65536)) 0 (0, 0, false) false s) (hno : ∀ c, c < 8 → ¬ fits s (leftOf (PL.new b cy ts) (now + dd % 65536)) c)
    (hX : ∀ (z4 z13 z14 z15 z16 z17 z71 z72 z73 z74 z75 z76 z77 z78 z79 z80 z81 z82 z83 z84 z85 z86 z87 z88 z89 z90 z91 z92 z93 z94 z95 z96 z97 z98 z99 z100 z101 z102 z103 z104 z105 z106 z107 z108 z109 z110 z111 z112 z113 z114 z115 z116 z117 z118 z119 z120 z121 z122 z123 z124 z125 z126 z127 z128 z129 z130 z131 z132 z133 z134 z135 z136 z137 z138 z139 z140 z141 z142 z143 z144 z145 z146 z147 z148 z149 z150 z151 z152 z153 z154 z155 : Value) (now1 : Int) (s' : LS) (vs' : Nat → Value) (F' : Nat → Prop) (W' : World), now ≤ now1 → now1 ≤ now + 65535 → OpS w k P hb b cy sl ts F' s' (heads s') vs' W' → s'.r = s.r → Q0 (.exit 1) ⟨#[a0, a1, .pointer (some ⟨w.heap.size, 0, none⟩), a3, z4, .pointer (some ⟨k, 0, none⟩), a6, .pointer (some ⟨hb, 0, none⟩), .int .i64 now1, a9, .pointer (some ⟨tb, 0, none⟩), a11, a12, z13, z14, z15, z16, z17, a18, a19, a20, a21, a22, a23, a24, a25, a26, a27, a28, a29, a30, a31, a32, a33, a34, a35, a36, a37, a38, a39, a40, a41, a42, a43, a44, a45, a46, a47, a48, a49, a50, a51, a52, a53, a54, a55, a56, a57, a58, a59, a60, a61, a62, a63, a64, a65, a66, a67, a68, a69, a70, z71, z72, z73, z74, z75, z76, z77, z78, z79, z80, z81, z82, z83, z84, z85, z86, z87, z88, z89, z90, z91, z92, z93, z94, z95, z96, z97, z98, z99, z100, z101, z102, z103, z104, z105, z106, z107, z108, z109, z110, z111, z112, z113, z114, z115, z116, z117, z118, z119, z120, z121, z122, z123, z124, z125, z126, z127, z128, z129, z130, z131, z132, z133, z134, z135, z136, z137, z138, z139, z140, z141, z142, z143, z144, z145, z146, z147, z148, z149, z150, z151, z152, z153, z154, z155, a156], []⟩ W')
    (hP : ∀ c (ax : Act) (kx : Option Nat) (vx : Value) (wx : World), Q0 (.panic c) (ax.put kx vx) wx → Q0 (.panic c) ax wx)
    (hQ : ∀ (z4 z13 z14 z15 z16 z17 z71 z72 z73 z74 z75 z76 z77 z78 z79 z80 z81 z82 z83 z84 z85 z86 z87 z88 z89 z90 z91 z92 z93 z94 z95 z96 z97 z98 z99 z100 z101 z102 z103 z104 z105 z106 z107 z108 z109 z110 z111 z112 z113 z114 z115 z116 z117 z118 z119 z120 z121 z122 z123 z124 z125 z126 z127 z128 z129 z130 z131 z132 z133 z134 z135 z136 z137 z138 z139 z140 z141 z142 z143 z144 z145 z146 z147 z148 z149 z150 z151 z152 z153 z154 z155 : Value) (now1 : Int) (s' : LS) (vs' : Nat → Value) (F' : Nat → Prop) (W' : World), now ≤ now1 → now1 ≤ now + 65535 → OpS w k P hb b cy sl ts F' s' (heads s') vs' W' → s'.r = s.r → Q0 .normal ⟨#[a0, a1, .pointer (some ⟨w.heap.size, 0, none⟩), a3, z4, .pointer (some ⟨k, 0, none⟩), a6, .pointer (some ⟨hb, 0, none⟩), .int .i64 now1, a9, .pointer (some ⟨tb, 0, none⟩), a11, a12, z13, z14, z15, z16, z17, a18, a19, a20, a21, a22, a23, a24, a25, a26, a27, a28, a29, a30, a31, a32, a33, a34, a35, a36, a37, a38, a39, a40, a41, a42, a43, a44, a45, a46, a47, a48, a49, a50, a51, a52, a53, a54, a55, a56, a57, a58, a59, a60, a61, a62, a63, a64, a65, a66, a67, a68, a69, a70, z71, z72, z73, z74, z75, z76, z77, z78, z79, z80, z81, z82, z83, z84, z85, z86, z87, z88, z89, z90, z91, z92, z93, z94, z95, z96, z97, z98, z99, z100, z101, z102, z103, z104, z105, z106, z107, z108, z109, z110, z111, z112, z113, z114, z115, z116, z117, z118, z119, z120, z121, z122, z123, z124, z125, z126, z127, z128, z129, z130, z131, z132, z133, z134, z135, z136, z137, z138, z139, z140, z141, z142, z143, z144, z145, z146, z147, z148, z149, z150, z151, z152, z153, z154, z155, a156], []⟩ W') :
    Code.wp Try.prog (partOf 18 0) Q0 ⟨#[a0, a1, .pointer (some ⟨w.heap.size, 0, none⟩), a3, a4, .pointer (some ⟨k, 0, none⟩), a6, .pointer (some ⟨hb, 0, none⟩), .int .i64 now, a9, .pointer (some ⟨tb, 0, none⟩), a11, a12, a13, a14, a15, a16, a17, a18, a19, a20, a21, a22, a23, a24, a25, a26, a27, a28, a29, a30, a31, a32, a33, a34, a35, a36, a37, a38, a39, a40, a41, a42, a43, a44, a45, a46, a47, a48, a49, a50, a51, a52, a53, a54, a55, a56, a57, a58, a59, a60, a61, a62, a63, a64, a65, a66, a67, a68, a69, a70, a71, a72, a73, a74, a75, a76, a77, a78, a79, a80, a81, a82, a83, a84, a85, a86, a87, a88, a89, a90, a91, a92, a93, a94, a95, a96, a97, a98, a99, a100, a101, a102, a103, a104, a105, a106, a107, a108, a109, a110, a111, a112, a113, a114, a115, a116, a117, a118, a119, a120, a121, a122, a123, a124, a125, a126, a127, a128, a129, a130, a131, a132, a133, a134, a135, a136, a137, a138, a139, a140, a141, a142, a143, a144, a145, a146, a147, a148, a149, a150, a151, a152, a153, a154, a155, a156], []⟩ W := by
  replace hQ := Lib.hid hQ
  replace hX := Lib.hid hX
  have a16 := low16 dd
  obtain ⟨m, hm⟩ : ∃ m, dd % 65536 = m := ⟨_, rfl⟩
  have m0 : 0 ≤ m := by omega
  have m1 : m ≤ 65535 := by omega
  rw [hm] at a16 hpk hno
  have HN : Hid (now ≤ now + m ∧ now + m ≤ now + 65535) := Lib.hid ⟨by omega, by omega⟩
  obtain ⟨x, hxm⟩ : ∃ x, now + m = x := ⟨_, rfl⟩
  rw [hxm] at HN hpk hno
  have ew : wrap64 (now + m) = x := by unfold wrap64; omega
  have hin : inNow x := ⟨by omega, by omega⟩
  clear hxm
  have HO := Lib.hid h
  have HD := Lib.hid (h.next hin hpk)
  have HSZ := Lib.hid h.sizes
  have HNO := Lib.hid hno
  have HP := Lib.hid hP
  
  
  clear h hm m0 m1 hin hno hP hn0 hn1 hpk
  conv => arg 2; whnf
  apply wp_seq_k
  intro KA hKA
  have HKA := Lib.hid hKA
  clear hKA
  go_wp2_with fail
  refine HKA.out _ _ ?_
  clear ew a16 t5
  apply wp_seq_k
  intro KB hKB
  have HKB := Lib.hid hKB
  clear hKB
  go_wp2_with (go_at_call 11; (with_reducible refine HD.out.mono ?_); rintro e W1 ⟨rfl, F1, hO1⟩; have HO1 := Lib.hid hO1; clear hO1; try dsimp only)
  refine HKB.out _ _ ?_
  have hxb : (W1.alloc (.cells #[.int .i64 0, .int .i64 0, .bool false] 35 (0, 0))).heap[W1.heap.size]? = some (.cells #[.int .i64 0, .int .i64 0, .bool false] 35 (0, 0)) := heap_alloc_one W1 _
  have HXB := Lib.hid hxb
  have HO2 := Lib.hid (HO1.out.below (bAl (bRef W1) (.cells #[.int .i64 0, .int .i64 0, .bool false] 35 (0, 0))))
  clear hxb
  apply wp_seq_k
  intro KC hKC
  refine rn_cls HO2.out HSZ.out ?_ (fun cx ax kx vx wx hx => HP.out cx ax kx vx wx hx) ?_
  · intro d hd y T hH hf
    obtain ⟨z, R, e1, e2, _⟩ := heads_first hH
    exact absurd ⟨z, R, e1, by rw [e2, new_left]; exact hf⟩ (HNO.out d hd)
  intro z4 z16 z17 z83 z84 z85 z86 z87 z88 z89 z90 z91 z92 z93 z94 z95 z96 z97 z98 z99 z100 z101 z102 z103 z104 z105 z106 z107 z108 z109 z110 z111 z112 z113 z114 W3 hb3
  refine hKC _ _ ?_
  have HO3 := Lib.hid (HO2.out.below hb3)
  clear hKC hb3
  go_wp2_with fail
  exact hX.out _ _ _ _ _ _ _ _ _ _ _ _ _ _ _ _ _ _ _ _ _ _ _ _ _ _ _ _ _ _ _ _ _ _ _ _ _ _ _ _ _ _ _ _ _ _ _ _ _ _ _ _ _ _ _ _ _ _ _ _ _ _ _ _ _ _ _ _ _ _ _ _ _ _ _ _ _ _ _ _ _ _ _ _ _ _ _ _ _ _ _ _ _ _ _ _ HN.out.1 HN.out.2 HO3.out rfl

set_option maxRecDepth 1000000 in
set_option maxHeartbeats 16000000 in
theorem rn_odd_b {w W : World} {k P hb : Nat} {b cy : Int} {sl : Value} {ts : List (Int × Int)} {F : Nat → Prop} {s : LS} {vs : Nat → Value} {tb : Nat} {now dd : Int} {c : Nat} {i0 i1 : Int} {i2 : Bool} {R : List It} {a0 a1 a3 a4 a6 a9 a11 a12 a13 a14 a15 a16 a17 a18 a19 a20 a21 a22 a23 a24 a25 a26 a27 a28 a29 a30 a31 a32 a33 a34 a35 a36 a37 a38 a39 a40 a41 a42 a43 a44 a45 a46 a47 a48 a49 a50 a51 a52 a53 a54 a55 a56 a57 a58 a59 a60 a61 a62 a63 a64 a65 a66 a67 a68 a69 a70 a71 a72 a73 a74 a75 a76 a77 a78 a79 a80 a81 a82 a83 a84 a85 a86 a87 a88 a89 a90 a91 a92 a93 a94 a95 a96 a97 a98 a99 a100 a101 a102 a103 a104 a105 a106 a107 a108 a109 a110 a111 a112 a113 a114 a115 a116 a117 a118 a119 a120 a121 a122 a123 a124 a125 a126 a127 a128 a129 a130 a131 a132 a133 a134 a135 a136 a137 a138 a139 a140 a141 a142 a143 a144 a145 a146 a147 a148 a149 a150 a151 a152 a153 a154 a155 a156 : Value} {Q0 : Exit → Act → World → Prop}
    (h : OpS w k P hb b cy sl ts F s (heads s) vs W) (hn0 : 0 ≤ now) (hn1 : now ≤ 4000000) (t5 : W.cell? ⟨tb, 5, none⟩ = some (.int .i64 dd)) (hc8 : c < 8) (hpk : Picks P s (leftOf (PL.new b cy ts) (now + dd % 65536)) (c : Int) (i0, i1, i2) true { s with q := upd s.q c R }) (hq : s.q c = (i0, i1, i2) :: R) (hno : 8 * i1 ≤ leftOf (PL.new b cy ts) (now + dd % 65536) c ∧ ∀ d, c < d → d < 8 → ¬ fits s (leftOf (PL.new b cy ts) (now + dd % 65536)) d)
    (hP : ∀ c (ax : Act) (kx : Option Nat) (vx : Value) (wx : World), Q0 (.panic c) (ax.put kx vx) wx → Q0 (.panic c) ax wx)
    (hQ : ∀ (z4 z13 z14 z15 z16 z17 z71 z72 z73 z74 z75 z76 z77 z78 z79 z80 z81 z82 z83 z84 z85 z86 z87 z88 z89 z90 z91 z92 z93 z94 z95 z96 z97 z98 z99 z100 z101 z102 z103 z104 z105 z106 z107 z108 z109 z110 z111 z112 z113 z114 z115 z116 z117 z118 z119 z120 z121 z122 z123 z124 z125 z126 z127 z128 z129 z130 z131 z132 z133 z134 z135 z136 z137 z138 z139 z140 z141 z142 z143 z144 z145 z146 z147 z148 z149 z150 z151 z152 z153 z154 z155 : Value) (now1 : Int) (s' : LS) (vs' : Nat → Value) (F' : Nat → Prop) (W' : World), now ≤ now1 → now1 ≤ now + 65535 → OpS w k P hb b cy sl ts F' s' (heads s') vs' W' → s'.r = s.r → Q0 .normal ⟨#[a0, a1, .pointer (some ⟨w.heap.size, 0, none⟩), a3, z4, .pointer (some ⟨k, 0, none⟩), a6, .pointer (some ⟨hb, 0, none⟩), .int .i64 now1, a9, .pointer (some ⟨tb, 0, none⟩), a11, a12, z13, z14, z15, z16, z17, a18, a19, a20, a21, a22, a23, a24, a25, a26, a27, a28, a29, a30, a31, a32, a33, a34, a35, a36, a37, a38, a39, a40, a41, a42, a43, a44, a45, a46, a47, a48, a49, a50, a51, a52, a53, a54, a55, a56, a57, a58, a59, a60, a61, a62, a63, a64, a65, a66, a67, a68, a69, a70, z71, z72, z73, z74, z75, z76, z77, z78, z79, z80, z81, z82, z83, z84, z85, z86, z87, z88, z89, z90, z91, z92, z93, z94, z95, z96, z97, z98, z99, z100, z101, z102, z103, z104, z105, z106, z107, z108, z109, z110, z111, z112, z113, z114, z115, z116, z117, z118, z119, z120, z121, z122, z123, z124, z125, z126, z127, z128, z129, z130, z131, z132, z133, z134, z135, z136, z137, z138, z139, z140, z141, z142, z143, z144, z145, z146, z147, z148, z149, z150, z151, z152, z153, z154, z155, a156], []⟩ W') :
    Code.wp Try.prog (partOf 18 0) Q0 ⟨#[a0, a1, .pointer (some ⟨w.heap.size, 0, none⟩), a3, a4, .pointer (some ⟨k, 0, none⟩), a6, .pointer (some ⟨hb, 0, none⟩), .int .i64 now, a9, .pointer (some ⟨tb, 0, none⟩), a11, a12, a13, a14, a15, a16, a17, a18, a19, a20, a21, a22, a23, a24, a25, a26, a27, a28, a29, a30, a31, a32, a33, a34, a35, a36, a37, a38, a39, a40, a41, a42, a43, a44, a45, a46, a47, a48, a49, a50, a51, a52, a53, a54, a55, a56, a57, a58, a59, a60, a61, a62, a63, a64, a65, a66, a67, a68, a69, a70, a71, a72, a73, a74, a75, a76, a77, a78, a79, a80, a81, a82, a83, a84, a85, a86, a87, a88, a89, a90, a91, a92, a93, a94, a95, a96, a97, a98, a99, a100, a101, a102, a103, a104, a105, a106, a107, a108, a109, a110, a111, a112, a113, a114, a115, a116, a117, a118, a119, a120, a121, a122, a123, a124, a125, a126, a127, a128, a129, a130, a131, a132, a133, a134, a135, a136, a137, a138, a139, a140, a141, a142, a143, a144, a145, a146, a147, a148, a149, a150, a151, a152, a153, a154, a155, a156], []⟩ W := by
  replace hQ := Lib.hid hQ
  have a16 := low16 dd
  obtain ⟨m, hm⟩ : ∃ m, dd % 65536 = m := ⟨_, rfl⟩
  have m0 : 0 ≤ m := by omega
  have m1 : m ≤ 65535 := by omega
  rw [hm] at a16 hpk hno
  have HN : Hid (now ≤ now + m ∧ now + m ≤ now + 65535) := Lib.hid ⟨by omega, by omega⟩
  obtain ⟨x, hxm⟩ : ∃ x, now + m = x := ⟨_, rfl⟩
  rw [hxm] at HN hpk hno
  have ew : wrap64 (now + m) = x := by unfold wrap64; omega
  have hin : inNow x := ⟨by omega, by omega⟩
  clear hxm
  have HO := Lib.hid h
  have HD := Lib.hid (h.next hin hpk)
  have HSZ := Lib.hid h.sizes
  have HNO := Lib.hid hno
  have HP := Lib.hid hP
  have HQQ := Lib.hid hq
  have HC8 := Lib.hid hc8
  clear h hm m0 m1 hin hno hP hn0 hn1 hpk hq
  conv => arg 2; whnf
  apply wp_seq_k
  intro KA hKA
  have HKA := Lib.hid hKA
  clear hKA
  go_wp2_with fail
  refine HKA.out _ _ ?_
  clear ew a16 t5
  apply wp_seq_k
  intro KB hKB
  have HKB := Lib.hid hKB
  clear hKB
  go_wp2_with (go_at_call 11; (with_reducible refine HD.out.mono ?_); rintro e W1 ⟨rfl, F1, hO1⟩; have HO1 := Lib.hid hO1; clear hO1; try dsimp only)
  refine HKB.out _ _ ?_
  have hxb : (W1.alloc (.cells #[.int .i64 i0, .int .i64 i1, .bool i2] 35 (0, 0))).heap[W1.heap.size]? = some (.cells #[.int .i64 i0, .int .i64 i1, .bool i2] 35 (0, 0)) := heap_alloc_one W1 _
  have HXB := Lib.hid hxb
  have HO2 := Lib.hid (HO1.out.below (bAl (bRef W1) (.cells #[.int .i64 i0, .int .i64 i1, .bool i2] 35 (0, 0))))
  clear hxb
  apply wp_seq_k
  intro KC hKC
  refine rn_cls HO2.out HSZ.out ?_ (fun cx ax kx vx wx hx => HP.out cx ax kx vx wx hx) ?_
  · intro d hd y T hH hf
    obtain ⟨z, R2, e1, e2, _⟩ := heads_first hH
    refine ⟨rfl, ?_⟩
    rcases Nat.lt_or_ge c d with g | g
    · exact absurd ⟨z, R2, e1, by rw [e2, new_left]; exact hf⟩ (HNO.out.2 d g hd)
    · omega
  intro z4 z16 z17 z83 z84 z85 z86 z87 z88 z89 z90 z91 z92 z93 z94 z95 z96 z97 z98 z99 z100 z101 z102 z103 z104 z105 z106 z107 z108 z109 z110 z111 z112 z113 z114 W3 hb3
  refine hKC _ _ ?_
  have HO3 := Lib.hid (HO2.out.below hb3)
  have HX3 := Lib.hid ((hb3.block _ (lt_of_heap HXB.out)).trans HXB.out)
  clear hKC hb3
  apply wp_seq_k
  intro KD hKD
  have HKD := Lib.hid hKD
  clear hKD
  go_wp2_with fail
  refine HKD.out _ _ ?_
  have hH : heads s c = i1 :: R.map (·.2.1) := by unfold heads; rw [HQQ.out]; rfl
  have hz := HSZ.out c HC8.out i1 (by rw [hH]; exact List.mem_cons_self ..)
  refine rn_right (x := i1) HO3.out HC8.out hH (cell_of_row _ _ _ _ _ _ HX3.out) hz.1 hz.2 (by have := HNO.out.1; rw [new_left] at this; exact this) (fun cx ax kx vx wx hx => HP.out cx ax kx vx wx hx) ?_
  intro z4 z117 z118 z119 z120 z121 z122 z123 z124 z125 z126 z127 z128 z129 z130 z131 z132 z133 z134 z135 z136 z137 z138 z139 z140 z141 z142 z143 z144 z145 z146 z147 z148 z149 z150 z151 z152 z153 z154 z155 vs' W4 hO4
  rw [← heads_upd] at hO4
  exact hQ.out _ _ _ _ _ _ _ _ _ _ _ _ _ _ _ _ _ _ _ _ _ _ _ _ _ _ _ _ _ _ _ _ _ _ _ _ _ _ _ _ _ _ _ _ _ _ _ _ _ _ _ _ _ _ _ _ _ _ _ _ _ _ _ _ _ _ _ _ _ _ _ _ _ _ _ _ _ _ _ _ _ _ _ _ _ _ _ _ _ _ _ _ _ _ _ _ HN.out.1 HN.out.2 hO4 rfl

set_option maxRecDepth 1000000 in
set_option maxHeartbeats 16000000 in
theorem rn_odd {w W : World} {k P hb : Nat} {b cy : Int} {sl : Value} {ts : List (Int × Int)} {F : Nat → Prop} {s : LS} {vs : Nat → Value} {tb : Nat} {now dd : Int} {a0 a1 a3 a4 a6 a9 a11 a12 a13 a14 a15 a16 a17 a18 a19 a20 a21 a22 a23 a24 a25 a26 a27 a28 a29 a30 a31 a32 a33 a34 a35 a36 a37 a38 a39 a40 a41 a42 a43 a44 a45 a46 a47 a48 a49 a50 a51 a52 a53 a54 a55 a56 a57 a58 a59 a60 a61 a62 a63 a64 a65 a66 a67 a68 a69 a70 a71 a72 a73 a74 a75 a76 a77 a78 a79 a80 a81 a82 a83 a84 a85 a86 a87 a88 a89 a90 a91 a92 a93 a94 a95 a96 a97 a98 a99 a100 a101 a102 a103 a104 a105 a106 a107 a108 a109 a110 a111 a112 a113 a114 a115 a116 a117 a118 a119 a120 a121 a122 a123 a124 a125 a126 a127 a128 a129 a130 a131 a132 a133 a134 a135 a136 a137 a138 a139 a140 a141 a142 a143 a144 a145 a146 a147 a148 a149 a150 a151 a152 a153 a154 a155 a156 : Value} {Q0 : Exit → Act → World → Prop}
    (h : OpS w k P hb b cy sl ts F s (heads s) vs W) (hn0 : 0 ≤ now) (hn1 : now ≤ 4000000) (t5 : W.cell? ⟨tb, 5, none⟩ = some (.int .i64 dd))
    (hX : ∀ (z4 z13 z14 z15 z16 z17 z71 z72 z73 z74 z75 z76 z77 z78 z79 z80 z81 z82 z83 z84 z85 z86 z87 z88 z89 z90 z91 z92 z93 z94 z95 z96 z97 z98 z99 z100 z101 z102 z103 z104 z105 z106 z107 z108 z109 z110 z111 z112 z113 z114 z115 z116 z117 z118 z119 z120 z121 z122 z123 z124 z125 z126 z127 z128 z129 z130 z131 z132 z133 z134 z135 z136 z137 z138 z139 z140 z141 z142 z143 z144 z145 z146 z147 z148 z149 z150 z151 z152 z153 z154 z155 : Value) (now1 : Int) (s' : LS) (vs' : Nat → Value) (F' : Nat → Prop) (W' : World), now ≤ now1 → now1 ≤ now + 65535 → OpS w k P hb b cy sl ts F' s' (heads s') vs' W' → s'.r = s.r → Q0 (.exit 1) ⟨#[a0, a1, .pointer (some ⟨w.heap.size, 0, none⟩), a3, z4, .pointer (some ⟨k, 0, none⟩), a6, .pointer (some ⟨hb, 0, none⟩), .int .i64 now1, a9, .pointer (some ⟨tb, 0, none⟩), a11, a12, z13, z14, z15, z16, z17, a18, a19, a20, a21, a22, a23, a24, a25, a26, a27, a28, a29, a30, a31, a32, a33, a34, a35, a36, a37, a38, a39, a40, a41, a42, a43, a44, a45, a46, a47, a48, a49, a50, a51, a52, a53, a54, a55, a56, a57, a58, a59, a60, a61, a62, a63, a64, a65, a66, a67, a68, a69, a70, z71, z72, z73, z74, z75, z76, z77, z78, z79, z80, z81, z82, z83, z84, z85, z86, z87, z88, z89, z90, z91, z92, z93, z94, z95, z96, z97, z98, z99, z100, z101, z102, z103, z104, z105, z106, z107, z108, z109, z110, z111, z112, z113, z114, z115, z116, z117, z118, z119, z120, z121, z122, z123, z124, z125, z126, z127, z128, z129, z130, z131, z132, z133, z134, z135, z136, z137, z138, z139, z140, z141, z142, z143, z144, z145, z146, z147, z148, z149, z150, z151, z152, z153, z154, z155, a156], []⟩ W')
    (hP : ∀ c (ax : Act) (kx : Option Nat) (vx : Value) (wx : World), Q0 (.panic c) (ax.put kx vx) wx → Q0 (.panic c) ax wx)
    (hQ : ∀ (z4 z13 z14 z15 z16 z17 z71 z72 z73 z74 z75 z76 z77 z78 z79 z80 z81 z82 z83 z84 z85 z86 z87 z88 z89 z90 z91 z92 z93 z94 z95 z96 z97 z98 z99 z100 z101 z102 z103 z104 z105 z106 z107 z108 z109 z110 z111 z112 z113 z114 z115 z116 z117 z118 z119 z120 z121 z122 z123 z124 z125 z126 z127 z128 z129 z130 z131 z132 z133 z134 z135 z136 z137 z138 z139 z140 z141 z142 z143 z144 z145 z146 z147 z148 z149 z150 z151 z152 z153 z154 z155 : Value) (now1 : Int) (s' : LS) (vs' : Nat → Value) (F' : Nat → Prop) (W' : World), now ≤ now1 → now1 ≤ now + 65535 → OpS w k P hb b cy sl ts F' s' (heads s') vs' W' → s'.r = s.r → Q0 .normal ⟨#[a0, a1, .pointer (some ⟨w.heap.size, 0, none⟩), a3, z4, .pointer (some ⟨k, 0, none⟩), a6, .pointer (some ⟨hb, 0, none⟩), .int .i64 now1, a9, .pointer (some ⟨tb, 0, none⟩), a11, a12, z13, z14, z15, z16, z17, a18, a19, a20, a21, a22, a23, a24, a25, a26, a27, a28, a29, a30, a31, a32, a33, a34, a35, a36, a37, a38, a39, a40, a41, a42, a43, a44, a45, a46, a47, a48, a49, a50, a51, a52, a53, a54, a55, a56, a57, a58, a59, a60, a61, a62, a63, a64, a65, a66, a67, a68, a69, a70, z71, z72, z73, z74, z75, z76, z77, z78, z79, z80, z81, z82, z83, z84, z85, z86, z87, z88, z89, z90, z91, z92, z93, z94, z95, z96, z97, z98, z99, z100, z101, z102, z103, z104, z105, z106, z107, z108, z109, z110, z111, z112, z113, z114, z115, z116, z117, z118, z119, z120, z121, z122, z123, z124, z125, z126, z127, z128, z129, z130, z131, z132, z133, z134, z135, z136, z137, z138, z139, z140, z141, z142, z143, z144, z145, z146, z147, z148, z149, z150, z151, z152, z153, z154, z155, a156], []⟩ W') :
    Code.wp Try.prog (partOf 18 0) Q0 ⟨#[a0, a1, .pointer (some ⟨w.heap.size, 0, none⟩), a3, a4, .pointer (some ⟨k, 0, none⟩), a6, .pointer (some ⟨hb, 0, none⟩), .int .i64 now, a9, .pointer (some ⟨tb, 0, none⟩), a11, a12, a13, a14, a15, a16, a17, a18, a19, a20, a21, a22, a23, a24, a25, a26, a27, a28, a29, a30, a31, a32, a33, a34, a35, a36, a37, a38, a39, a40, a41, a42, a43, a44, a45, a46, a47, a48, a49, a50, a51, a52, a53, a54, a55, a56, a57, a58, a59, a60, a61, a62, a63, a64, a65, a66, a67, a68, a69, a70, a71, a72, a73, a74, a75, a76, a77, a78, a79, a80, a81, a82, a83, a84, a85, a86, a87, a88, a89, a90, a91, a92, a93, a94, a95, a96, a97, a98, a99, a100, a101, a102, a103, a104, a105, a106, a107, a108, a109, a110, a111, a112, a113, a114, a115, a116, a117, a118, a119, a120, a121, a122, a123, a124, a125, a126, a127, a128, a129, a130, a131, a132, a133, a134, a135, a136, a137, a138, a139, a140, a141, a142, a143, a144, a145, a146, a147, a148, a149, a150, a151, a152, a153, a154, a155, a156], []⟩ W := by
  replace hQ := Lib.hid hQ
  replace hQ := hQ.out
  rcases pick_ways s (leftOf (PL.new b cy ts) (now + dd % 65536)) with hn | ⟨c, ⟨i0, i1, i2⟩, R, hc8, hq, hx, hm⟩
  · exact rn_odd_a h hn0 hn1 t5 (Picks.none hn) hn hX hP hQ
  · exact rn_odd_b h hn0 hn1 t5 hc8 (Picks.some hc8 hq hx hm) hq ⟨hx, hm⟩ hP hQ

end Go.Proofs.Ytllmfkodgalklaa
