/- PortOpen in parts: its great loop. Written by gen_poopen.py. -/
import Derived.Test.YtllmfkodgalklaaPoOpG
import Derived.Test.YtllmfkodgalklaaFPortOpen
namespace Go.Proofs.Ytllmfkodgalklaa
open Go.RowKit Go.Joins Go.Deep

/-- The start: a new port, rows that are empty. -/
theorem OpS.start {w W : World} {k P : Nat} {b cy : Int} {sl : Value} {ts : List (Int × Int)} {r : Nat → Int} (hp : PoL w W k P (fun j => j = P) (PL.new b cy ts) (LS.new r)) (hk : w.heap.size < k) (hP : w.heap.size < P) (hl : LB W w.heap.size b cy sl) (ha : TArg w sl ts) :
    OpS w k P W.heap.size b cy sl ts (fun j => j = P) (LS.new r) (heads (LS.new r)) (fun _ => .slice none 0 0) (W.alloc (h8 (fun _ => .slice none 0 0))) := by
  have hb := bAl (bRef W) (h8 (fun _ => .slice none 0 0))
  have h1 := hp.klt
  have h2 : P < W.heap.size := by
    obtain ⟨sl2, hl2⟩ := hp.ln.ln
    exact hl2.top _ rfl
  exact ⟨hp.below hb, heap_alloc_one W _, fun d _ => .inl ⟨rfl, rfl⟩, (fun d e _ _ _ g hg => by cases hg), (fun d _ g hg => by cases hg), ⟨by omega, (fun e => by have e2 : W.heap.size = P := e; omega)⟩, hp.bel.size, (hb.block _ (lt_of_heap hl)).trans hl, ⟨by omega, (fun e => by have e2 : w.heap.size = P := e; omega)⟩, ha⟩
structure OpRel (w : World) (k P hb n : Nat) (b cy : Int) (sl : Value) (ts : List (Int × Int)) (nv iv : Value) (wr : World) : Prop where
  ex : ∃ (i : Nat) (now : Int) (s : LS) (F : Nat → Prop) (vs : Nat → Value), iv = .int .i64 (i : Int) ∧ nv = .int .i64 now ∧ i ≤ n ∧ 0 ≤ now ∧ now ≤ 65535 * i ∧ OpS w k P hb b cy sl ts F s (heads s) vs wr
set_option maxRecDepth 1000000 in
set_option maxHeartbeats 16000000 in
theorem rn_all {w W : World} {k P hb : Nat} {b cy : Int} {sl : Value} {ts : List (Int × Int)} {F : Nat → Prop} {s : LS} {vs : Nat → Value} {p : Option Addr} {n cc : Nat} {a0 a3 a4 a6 a9 a10 a11 a12 a13 a14 a15 a16 a17 a18 a19 a20 a21 a22 a23 a24 a25 a26 a27 a28 a29 a30 a31 a32 a33 a34 a35 a36 a37 a38 a39 a40 a41 a42 a43 a44 a45 a46 a47 a48 a49 a50 a51 a52 a53 a54 a55 a56 a57 a58 a59 a60 a61 a62 a63 a64 a65 a66 a67 a68 a69 a70 a71 a72 a73 a74 a75 a76 a77 a78 a79 a80 a81 a82 a83 a84 a85 a86 a87 a88 a89 a90 a91 a92 a93 a94 a95 a96 a97 a98 a99 a100 a101 a102 a103 a104 a105 a106 a107 a108 a109 a110 a111 a112 a113 a114 a115 a116 a117 a118 a119 a120 a121 a122 a123 a124 a125 a126 a127 a128 a129 a130 a131 a132 a133 a134 a135 a136 a137 a138 a139 a140 a141 a142 a143 a144 a145 a146 a147 a148 a149 a150 a151 a152 a153 a154 a155 a156 : Value} {Q0 : Exit → Act → World → Prop}
    (h : OpS w k P hb b cy sl ts F s (heads s) vs W) (ha : SArg w (.slice p n cc) n) (hn : n ≤ 40)
    (hP : ∀ c (ax : Act) (kx : Option Nat) (vx : Value) (wx : World), Q0 (.panic c) (ax.put kx vx) wx → Q0 (.panic c) ax wx)
    (hQ : ∀ (z4 z8 z10 z11 z12 z13 z14 z15 z16 z17 z38 z39 z40 z41 z42 z43 z44 z45 z46 z47 z48 z49 z50 z51 z52 z53 z54 z55 z56 z57 z58 z59 z60 z61 z62 z63 z64 z65 z66 z67 z68 z69 z70 z71 z72 z73 z74 z75 z76 z77 z78 z79 z80 z81 z82 z83 z84 z85 z86 z87 z88 z89 z90 z91 z92 z93 z94 z95 z96 z97 z98 z99 z100 z101 z102 z103 z104 z105 z106 z107 z108 z109 z110 z111 z112 z113 z114 z115 z116 z117 z118 z119 z120 z121 z122 z123 z124 z125 z126 z127 z128 z129 z130 z131 z132 z133 z134 z135 z136 z137 z138 z139 z140 z141 z142 z143 z144 z145 z146 z147 z148 z149 z150 z151 z152 z153 z154 z155 z156 : Value) (W' : World), Below w.heap.size w W' → Q0 .normal ⟨#[a0, .slice p n cc, .pointer (some ⟨w.heap.size, 0, none⟩), a3, z4, .pointer (some ⟨k, 0, none⟩), a6, .pointer (some ⟨hb, 0, none⟩), z8, a9, z10, z11, z12, z13, z14, z15, z16, z17, a18, a19, a20, a21, a22, a23, a24, a25, a26, a27, a28, a29, a30, a31, a32, a33, a34, a35, a36, a37, z38, z39, z40, z41, z42, z43, z44, z45, z46, z47, z48, z49, z50, z51, z52, z53, z54, z55, z56, z57, z58, z59, z60, z61, z62, z63, z64, z65, z66, z67, z68, z69, z70, z71, z72, z73, z74, z75, z76, z77, z78, z79, z80, z81, z82, z83, z84, z85, z86, z87, z88, z89, z90, z91, z92, z93, z94, z95, z96, z97, z98, z99, z100, z101, z102, z103, z104, z105, z106, z107, z108, z109, z110, z111, z112, z113, z114, z115, z116, z117, z118, z119, z120, z121, z122, z123, z124, z125, z126, z127, z128, z129, z130, z131, z132, z133, z134, z135, z136, z137, z138, z139, z140, z141, z142, z143, z144, z145, z146, z147, z148, z149, z150, z151, z152, z153, z154, z155, z156], []⟩ W') :
    Code.wp Try.prog (partOf 10 1) Q0 ⟨#[a0, .slice p n cc, .pointer (some ⟨w.heap.size, 0, none⟩), a3, a4, .pointer (some ⟨k, 0, none⟩), a6, .pointer (some ⟨hb, 0, none⟩), .int .i64 0, a9, a10, a11, a12, a13, a14, a15, a16, a17, a18, a19, a20, a21, a22, a23, a24, a25, a26, a27, a28, a29, a30, a31, a32, a33, a34, a35, a36, a37, a38, a39, a40, a41, a42, a43, a44, a45, a46, a47, a48, a49, a50, a51, a52, a53, a54, a55, a56, a57, a58, a59, a60, a61, a62, a63, a64, a65, a66, a67, a68, a69, a70, a71, a72, a73, a74, a75, a76, a77, a78, a79, a80, a81, a82, a83, a84, a85, a86, a87, a88, a89, a90, a91, a92, a93, a94, a95, a96, a97, a98, a99, a100, a101, a102, a103, a104, a105, a106, a107, a108, a109, a110, a111, a112, a113, a114, a115, a116, a117, a118, a119, a120, a121, a122, a123, a124, a125, a126, a127, a128, a129, a130, a131, a132, a133, a134, a135, a136, a137, a138, a139, a140, a141, a142, a143, a144, a145, a146, a147, a148, a149, a150, a151, a152, a153, a154, a155, a156], []⟩ W := by
  replace hQ := Lib.hid hQ
  have HS0 := Lib.hid h
  have HA := Lib.hid ha
  have HN40 := Lib.hid hn
  have HP := Lib.hid hP
  clear h ha hn hP
  conv => arg 2; whnf
  go_wp2_with fail
  go_loopw [8, 40] (fun nv iv wr => OpRel w k P hb n b cy sl ts nv iv wr) (fun _ iv _ => n - (intOf iv).toNat)
  case atStart => exact ⟨⟨0, 0, _, _, _, rfl, rfl, by omega, by omega, by omega, HS0.out⟩⟩
  case round =>
    obtain ⟨i, now, s, F, vs, rfl, rfl, hin, hn0, hn1, hst⟩ := hrel.ex
    have HST := Lib.hid hst
    clear hst
    rcases Nat.lt_or_ge i n with g | g
    · have d0 : decide ((i : Int) < (n : Int)) = true := decide_eq_true (by omega)
      obtain ⟨ab, ao, Fa, rfl, hab, hF⟩ := SArg.at HA.out (by omega)
      obtain ⟨hok, hc⟩ := hF i g
      obtain ⟨q2, c2, hsl⟩ := hok.arg.slice
      have hq := fun j hj => (HST.out.po.bel.cell (p := ⟨ab, ao + i * 9 + j, none⟩) hab).trans (hc j hj)
      have HQC := Lib.hid hq
      have HSL := Lib.hid hsl
      have HNN : Hid (0 ≤ now ∧ now ≤ 65535 * (i : Int) ∧ i < 40) := Lib.hid ⟨hn0, hn1, by have := HN40.out; omega⟩
      have HG1 := Lib.hid g
      clear hF hc hq hok hsl hn0 hn1 hab hin
      go_upto_if 41 with (fail)
      refine wp_cond_true (by go_simp) ?_
      go_step
      go_step
      go_step
      clear d0 g
      apply wp_seq_k
      intro K hK
      have h8s : wr.cell? ⟨ab, ao + i * 9 + 8, none⟩ = some (.slice q2 (Fa i).ts.length c2) := by
        rw [← HSL.out]
        exact HQC.out 8 (by omega)
      refine rn_step HST.out HNN.out.1 (by have := HNN.out.2; omega) HG1.out (by have := HNN.out.2.2; omega) (HQC.out 0 (by omega)) (HQC.out 1 (by omega)) (HQC.out 2 (by omega)) (HQC.out 3 (by omega)) (HQC.out 4 (by omega)) (HQC.out 5 (by omega)) (HQC.out 6 (by omega)) (HQC.out 7 (by omega)) h8s (fun cx ax kx vx wx hx => HP.out cx ax kx vx wx hx) ?_
      intro z4 z10 z11 z12 z13 z14 z15 z16 z17 z42 z43 z44 z45 z46 z47 z48 z49 z50 z51 z52 z53 z54 z55 z56 z57 z58 z59 z60 z61 z62 z63 z64 z65 z66 z67 z68 z69 z70 z71 z72 z73 z74 z75 z76 z77 z78 z79 z80 z81 z82 z83 z84 z85 z86 z87 z88 z89 z90 z91 z92 z93 z94 z95 z96 z97 z98 z99 z100 z101 z102 z103 z104 z105 z106 z107 z108 z109 z110 z111 z112 z113 z114 z115 z116 z117 z118 z119 z120 z121 z122 z123 z124 z125 z126 z127 z128 z129 z130 z131 z132 z133 z134 z135 z136 z137 z138 z139 z140 z141 z142 z143 z144 z145 z146 z147 z148 z149 z150 z151 z152 z153 z154 z155 now1 s' vs' F' W' g1 g2 hO _
      refine hK _ _ ?_
      have HS2 := Lib.hid hO
      have HG := Lib.hid (And.intro g1 g2)
      have ec : wrap64 ((i : Int) + 1) = ((i + 1 : Nat) : Int) := by have := HNN.out.2.2; unfold wrap64; omega
      clear hO hK g1 g2 h8s
      go_wp2_with fail
      refine ⟨?_, ?_⟩
      · have h1 := HG.out
        have h2 := HNN.out
        have h3 := HG1.out
        rw [ec]
        exact ⟨⟨i + 1, now1, s', F', vs', rfl, rfl, by omega, by omega, by omega, HS2.out⟩⟩
      · show n - (intOf (.int .i64 (wrap64 ((i : Int) + 1)))).toNat < n - (intOf (.int .i64 (i : Int))).toNat
        rw [ec]
        have := HG1.out
        show n - ((i + 1 : Nat) : Int).toNat < n - (i : Int).toNat
        omega
    · obtain rfl : i = n := by omega
      have d0 : decide ((i : Int) < (i : Int)) = false := decide_eq_false (by omega)
      have HBE := Lib.hid HST.out.po.bel
      clear hn0 hn1
      go_wp2_with fail
      exact hQ.out _ _ _ _ _ _ _ _ _ _ _ _ _ _ _ _ _ _ _ _ _ _ _ _ _ _ _ _ _ _ _ _ _ _ _ _ _ _ _ _ _ _ _ _ _ _ _ _ _ _ _ _ _ _ _ _ _ _ _ _ _ _ _ _ _ _ _ _ _ _ _ _ _ _ _ _ _ _ _ _ _ _ _ _ _ _ _ _ _ _ _ _ _ _ _ _ _ _ _ _ _ _ _ _ _ _ _ _ _ _ _ _ _ _ _ _ _ _ _ _ _ _ _ _ _ _ _ _ _ _ HBE.out

end Go.Proofs.Ytllmfkodgalklaa
