/- PortOpen in parts: a frame is put. Written by gen_poopen.py. -/
import Derived.Test.YtllmfkodgalklaaPoOpA
namespace Go.Proofs.Ytllmfkodgalklaa
open Go.RowKit Go.Joins Go.Deep

/-- What waits, by its sizes. -/
def heads (s : LS) : Nat → List Int := fun d => (s.q d).map (·.2.1)
theorem heads_upd (s : LS) (c : Nat) (L : List It) : heads { s with q := upd s.q c L } = upd (heads s) c (L.map (·.2.1)) := by
  funext d
  show (upd s.q c L d).map _ = _
  by_cases e : d = c
  · subst e
    rw [upd_same, upd_same]
  · rw [upd_other _ _ e, upd_other _ _ e]
    rfl
theorem put_way (s : LS) {c : Nat} (hc : c < 8) (z : Int) (h0 : 0 ≤ z) (h1 : z ≤ 1600) : (s.pute (c : Int) (0, z, false) = 30 ∧ heads (s.put (c : Int) (0, z, false)) = heads s) ∨ (s.pute (c : Int) (0, z, false) = 0 ∧ heads (s.put (c : Int) (0, z, false)) = upd (heads s) c (heads s c ++ [z])) := by
  have ek : (c : Int).toNat = c := by omega
  have hx : ¬ (z < 0 ∨ 1600 < z) := by omega
  have hcc : ¬ ((c : Int) < 0 ∨ 8 ≤ (c : Int)) := by omega
  by_cases hf : s.full c false = true
  · have e1 : s.pute (c : Int) (0, z, false) = 30 := by unfold LS.pute; rw [if_neg hx, if_neg hcc, ek, if_pos hf]
    refine .inl ⟨e1, ?_⟩
    unfold LS.put
    rw [e1, if_neg (by decide), if_pos rfl]
    rfl
  · have e1 : s.pute (c : Int) (0, z, false) = 0 := by unfold LS.pute; rw [if_neg hx, if_neg hcc, ek, if_neg hf]
    refine .inr ⟨e1, ?_⟩
    unfold LS.put
    rw [e1, if_pos rfl, ek, heads_upd, List.map_append]
    rfl
theorem item_kept {w W V : World} {k P hb : Nat} {b cy : Int} {sl : Value} {ts : List (Int × Int)} {F : Nat → Prop} {s s' : LS} {H : Nat → List Int} {vs : Nat → Value} (h : OpS w k P hb b cy sl ts F s H vs W) (o : Obj) (hl : PLeft w (W.alloc o) k P F (PL.new b cy ts) s' V) : V.heap[W.heap.size]? = some o := by
  refine hl.kept (heap_alloc_one W o) ?_ ?_
  · have := h.po.klt
    omega
  · intro f
    obtain ⟨sl2, hl2⟩ := h.po.ln.ln
    have := hl2.top _ f
    omega
set_option maxRecDepth 1000000 in
set_option maxHeartbeats 16000000 in
theorem rn_even_a {w W : World} {k P hb : Nat} {b cy : Int} {sl : Value} {ts : List (Int × Int)} {F : Nat → Prop} {s : LS} {vs : Nat → Value} {tb c : Nat} {cl sz m : Int} {a0 a1 a2 a3 a4 a6 a8 a9 a11 a12 a13 a14 a15 a16 a17 a18 a19 a20 a21 a22 a23 a24 a25 a26 a27 a28 a29 a30 a31 a32 a33 a34 a35 a36 a37 a38 a39 a40 a41 a42 a43 a44 a45 a46 a47 a48 a49 a50 a51 a52 a53 a54 a55 a56 a57 a58 a59 a60 a61 a62 a63 a64 a65 a66 a67 a68 a69 a70 a71 a72 a73 a74 a75 a76 a77 a78 a79 a80 a81 a82 a83 a84 a85 a86 a87 a88 a89 a90 a91 a92 a93 a94 a95 a96 a97 a98 a99 a100 a101 a102 a103 a104 a105 a106 a107 a108 a109 a110 a111 a112 a113 a114 a115 a116 a117 a118 a119 a120 a121 a122 a123 a124 a125 a126 a127 a128 a129 a130 a131 a132 a133 a134 a135 a136 a137 a138 a139 a140 a141 a142 a143 a144 a145 a146 a147 a148 a149 a150 a151 a152 a153 a154 a155 a156 : Value} {Q0 : Exit → Act → World → Prop}
    (h : OpS w k P hb b cy sl ts F s (heads s) vs W) (hc8 : c < 8) (hcl : bits .and .i64 cl 7 = (c : Int)) (hsz : bits .and .i64 sz 1023 = m) (m0 : 0 ≤ m) (m1 : m < 1024) (t1 : ∀ o, (W.alloc o).cell? ⟨tb, 1, none⟩ = some (.int .i64 cl)) (t3 : W.cell? ⟨tb, 3, none⟩ = some (.int .i64 sz)) (hpe : s.pute (c : Int) (0, 64 + m, false) = 30) (heq : heads (s.put (c : Int) (0, 64 + m, false)) = heads s)
    (hP : ∀ c (ax : Act) (kx : Option Nat) (vx : Value) (wx : World), Q0 (.panic c) (ax.put kx vx) wx → Q0 (.panic c) ax wx)
    (hQ : ∀ (z11 z12 z48 z49 z50 z51 z52 z53 z54 z55 z56 z57 z58 z59 z60 z61 z62 z63 z64 z65 z66 z67 z68 z69 z70 : Value) (s' : LS) (vs' : Nat → Value) (F' : Nat → Prop) (W' : World), OpS w k P hb b cy sl ts F' s' (heads s') vs' W' → s'.r = s.r → Q0 (.exit 1) ⟨#[a0, a1, a2, a3, a4, .pointer (some ⟨k, 0, none⟩), a6, .pointer (some ⟨hb, 0, none⟩), a8, a9, .pointer (some ⟨tb, 0, none⟩), z11, z12, a13, a14, a15, a16, a17, a18, a19, a20, a21, a22, a23, a24, a25, a26, a27, a28, a29, a30, a31, a32, a33, a34, a35, a36, a37, a38, a39, a40, a41, a42, a43, a44, a45, a46, a47, z48, z49, z50, z51, z52, z53, z54, z55, z56, z57, z58, z59, z60, z61, z62, z63, z64, z65, z66, z67, z68, z69, z70, a71, a72, a73, a74, a75, a76, a77, a78, a79, a80, a81, a82, a83, a84, a85, a86, a87, a88, a89, a90, a91, a92, a93, a94, a95, a96, a97, a98, a99, a100, a101, a102, a103, a104, a105, a106, a107, a108, a109, a110, a111, a112, a113, a114, a115, a116, a117, a118, a119, a120, a121, a122, a123, a124, a125, a126, a127, a128, a129, a130, a131, a132, a133, a134, a135, a136, a137, a138, a139, a140, a141, a142, a143, a144, a145, a146, a147, a148, a149, a150, a151, a152, a153, a154, a155, a156], []⟩ W') :
    Code.wp Try.prog (partOf 14 0) Q0 ⟨#[a0, a1, a2, a3, a4, .pointer (some ⟨k, 0, none⟩), a6, .pointer (some ⟨hb, 0, none⟩), a8, a9, .pointer (some ⟨tb, 0, none⟩), a11, a12, a13, a14, a15, a16, a17, a18, a19, a20, a21, a22, a23, a24, a25, a26, a27, a28, a29, a30, a31, a32, a33, a34, a35, a36, a37, a38, a39, a40, a41, a42, a43, a44, a45, a46, a47, a48, a49, a50, a51, a52, a53, a54, a55, a56, a57, a58, a59, a60, a61, a62, a63, a64, a65, a66, a67, a68, a69, a70, a71, a72, a73, a74, a75, a76, a77, a78, a79, a80, a81, a82, a83, a84, a85, a86, a87, a88, a89, a90, a91, a92, a93, a94, a95, a96, a97, a98, a99, a100, a101, a102, a103, a104, a105, a106, a107, a108, a109, a110, a111, a112, a113, a114, a115, a116, a117, a118, a119, a120, a121, a122, a123, a124, a125, a126, a127, a128, a129, a130, a131, a132, a133, a134, a135, a136, a137, a138, a139, a140, a141, a142, a143, a144, a145, a146, a147, a148, a149, a150, a151, a152, a153, a154, a155, a156], []⟩ W := by
  replace hQ := Lib.hid hQ
  have hd0 := fun o => pput (h.below (bAl (bRef W) o)).po (c : Int) 0 (64 + m) false
  rw [hpe] at hd0
  have HD := Lib.hid hd0
  have HO := Lib.hid h
  have HEQ := Lib.hid heq
  have HRR := Lib.hid (put_r s (c : Int) (0, 64 + m, false))
  have HP := Lib.hid hP
  have HLEN : Hid ((heads s c).length ≤ 4096) := Lib.hid (by unfold heads; rw [List.length_map]; exact h.po.gd.ln c hc8)
  have ez : wrap64 (64 + m) = 64 + m := by unfold wrap64; omega
  clear hd0 h heq hP hpe
  conv => arg 2; whnf
  go_wp2_with (go_at_call 13; (with_reducible refine (HD.out (.cells #[.int .i64 0, .int .i64 (64 + m), .bool false] 35 (0, 0))).mono ?_); rintro e W1 ⟨rfl, hl⟩; have HIB := Lib.hid (item_kept HO.out (.cells #[.int .i64 0, .int .i64 (64 + m), .bool false] 35 (0, 0)) hl); obtain ⟨F1, hO2⟩ := (HO.out.below (bAl (bRef W) (.cells #[.int .i64 0, .int .i64 (64 + m), .bool false] 35 (0, 0)))).turn hl; have HO2 := Lib.hid hO2; clear hl hO2; try dsimp only)
  rw [← HEQ.out] at HO2
  exact hQ.out _ _ _ _ _ _ _ _ _ _ _ _ _ _ _ _ _ _ _ _ _ _ _ _ _ _ _ _ _ HO2.out HRR.out

set_option maxRecDepth 1000000 in
set_option maxHeartbeats 16000000 in
theorem rn_even_b {w W : World} {k P hb : Nat} {b cy : Int} {sl : Value} {ts : List (Int × Int)} {F : Nat → Prop} {s : LS} {vs : Nat → Value} {tb c : Nat} {cl sz m : Int} {a0 a1 a2 a3 a4 a6 a8 a9 a11 a12 a13 a14 a15 a16 a17 a18 a19 a20 a21 a22 a23 a24 a25 a26 a27 a28 a29 a30 a31 a32 a33 a34 a35 a36 a37 a38 a39 a40 a41 a42 a43 a44 a45 a46 a47 a48 a49 a50 a51 a52 a53 a54 a55 a56 a57 a58 a59 a60 a61 a62 a63 a64 a65 a66 a67 a68 a69 a70 a71 a72 a73 a74 a75 a76 a77 a78 a79 a80 a81 a82 a83 a84 a85 a86 a87 a88 a89 a90 a91 a92 a93 a94 a95 a96 a97 a98 a99 a100 a101 a102 a103 a104 a105 a106 a107 a108 a109 a110 a111 a112 a113 a114 a115 a116 a117 a118 a119 a120 a121 a122 a123 a124 a125 a126 a127 a128 a129 a130 a131 a132 a133 a134 a135 a136 a137 a138 a139 a140 a141 a142 a143 a144 a145 a146 a147 a148 a149 a150 a151 a152 a153 a154 a155 a156 : Value} {Q0 : Exit → Act → World → Prop}
    (h : OpS w k P hb b cy sl ts F s (heads s) vs W) (hc8 : c < 8) (hcl : bits .and .i64 cl 7 = (c : Int)) (hsz : bits .and .i64 sz 1023 = m) (m0 : 0 ≤ m) (m1 : m < 1024) (t1 : ∀ o, (W.alloc o).cell? ⟨tb, 1, none⟩ = some (.int .i64 cl)) (t3 : W.cell? ⟨tb, 3, none⟩ = some (.int .i64 sz)) (hpe : s.pute (c : Int) (0, 64 + m, false) = 0) (heq : heads (s.put (c : Int) (0, 64 + m, false)) = upd (heads s) c (heads s c ++ [64 + m]))
    (hP : ∀ c (ax : Act) (kx : Option Nat) (vx : Value) (wx : World), Q0 (.panic c) (ax.put kx vx) wx → Q0 (.panic c) ax wx)
    (hQ : ∀ (z11 z12 z48 z49 z50 z51 z52 z53 z54 z55 z56 z57 z58 z59 z60 z61 z62 z63 z64 z65 z66 z67 z68 z69 z70 : Value) (s' : LS) (vs' : Nat → Value) (F' : Nat → Prop) (W' : World), OpS w k P hb b cy sl ts F' s' (heads s') vs' W' → s'.r = s.r → Q0 (.exit 1) ⟨#[a0, a1, a2, a3, a4, .pointer (some ⟨k, 0, none⟩), a6, .pointer (some ⟨hb, 0, none⟩), a8, a9, .pointer (some ⟨tb, 0, none⟩), z11, z12, a13, a14, a15, a16, a17, a18, a19, a20, a21, a22, a23, a24, a25, a26, a27, a28, a29, a30, a31, a32, a33, a34, a35, a36, a37, a38, a39, a40, a41, a42, a43, a44, a45, a46, a47, z48, z49, z50, z51, z52, z53, z54, z55, z56, z57, z58, z59, z60, z61, z62, z63, z64, z65, z66, z67, z68, z69, z70, a71, a72, a73, a74, a75, a76, a77, a78, a79, a80, a81, a82, a83, a84, a85, a86, a87, a88, a89, a90, a91, a92, a93, a94, a95, a96, a97, a98, a99, a100, a101, a102, a103, a104, a105, a106, a107, a108, a109, a110, a111, a112, a113, a114, a115, a116, a117, a118, a119, a120, a121, a122, a123, a124, a125, a126, a127, a128, a129, a130, a131, a132, a133, a134, a135, a136, a137, a138, a139, a140, a141, a142, a143, a144, a145, a146, a147, a148, a149, a150, a151, a152, a153, a154, a155, a156], []⟩ W') :
    Code.wp Try.prog (partOf 14 0) Q0 ⟨#[a0, a1, a2, a3, a4, .pointer (some ⟨k, 0, none⟩), a6, .pointer (some ⟨hb, 0, none⟩), a8, a9, .pointer (some ⟨tb, 0, none⟩), a11, a12, a13, a14, a15, a16, a17, a18, a19, a20, a21, a22, a23, a24, a25, a26, a27, a28, a29, a30, a31, a32, a33, a34, a35, a36, a37, a38, a39, a40, a41, a42, a43, a44, a45, a46, a47, a48, a49, a50, a51, a52, a53, a54, a55, a56, a57, a58, a59, a60, a61, a62, a63, a64, a65, a66, a67, a68, a69, a70, a71, a72, a73, a74, a75, a76, a77, a78, a79, a80, a81, a82, a83, a84, a85, a86, a87, a88, a89, a90, a91, a92, a93, a94, a95, a96, a97, a98, a99, a100, a101, a102, a103, a104, a105, a106, a107, a108, a109, a110, a111, a112, a113, a114, a115, a116, a117, a118, a119, a120, a121, a122, a123, a124, a125, a126, a127, a128, a129, a130, a131, a132, a133, a134, a135, a136, a137, a138, a139, a140, a141, a142, a143, a144, a145, a146, a147, a148, a149, a150, a151, a152, a153, a154, a155, a156], []⟩ W := by
  replace hQ := Lib.hid hQ
  have hd0 := fun o => pput (h.below (bAl (bRef W) o)).po (c : Int) 0 (64 + m) false
  rw [hpe] at hd0
  have HD := Lib.hid hd0
  have HO := Lib.hid h
  have HEQ := Lib.hid heq
  have HRR := Lib.hid (put_r s (c : Int) (0, 64 + m, false))
  have HP := Lib.hid hP
  have HLEN : Hid ((heads s c).length ≤ 4096) := Lib.hid (by unfold heads; rw [List.length_map]; exact h.po.gd.ln c hc8)
  have ez : wrap64 (64 + m) = 64 + m := by unfold wrap64; omega
  clear hd0 h heq hP hpe
  conv => arg 2; whnf
  go_upto_region 17 with (go_at_call 13; (with_reducible refine (HD.out (.cells #[.int .i64 0, .int .i64 (64 + m), .bool false] 35 (0, 0))).mono ?_); rintro e W1 ⟨rfl, hl⟩; have HIB := Lib.hid (item_kept HO.out (.cells #[.int .i64 0, .int .i64 (64 + m), .bool false] 35 (0, 0)) hl); obtain ⟨F1, hO2⟩ := (HO.out.below (bAl (bRef W) (.cells #[.int .i64 0, .int .i64 (64 + m), .bool false] 35 (0, 0)))).turn hl; have HO2 := Lib.hid hO2; clear hl hO2; try dsimp only)
  refine rn_push (ib := W.heap.size) (c := c) (z := 64 + m) HO2.out hc8 (cell_of_row _ _ _ _ _ _ HIB.out) (by have := HLEN.out; omega) (fun cx ax kx vx wx hx => HP.out cx ax kx vx wx hx) ?_
  intro z62 z63 z64 z65 z66 z67 z68 z69 z70 vs' W3 hO3
  have HO3 := Lib.hid hO3
  clear hO3
  go_wp2_with fail
  rw [← HEQ.out] at HO3
  exact hQ.out _ _ _ _ _ _ _ _ _ _ _ _ _ _ _ _ _ _ _ _ _ _ _ _ _ _ _ _ _ HO3.out HRR.out

set_option maxRecDepth 1000000 in
set_option maxHeartbeats 16000000 in
theorem rn_even {w W : World} {k P hb : Nat} {b cy : Int} {sl : Value} {ts : List (Int × Int)} {F : Nat → Prop} {s : LS} {vs : Nat → Value} {tb : Nat} {cl sz : Int} {a0 a1 a2 a3 a4 a6 a8 a9 a11 a12 a13 a14 a15 a16 a17 a18 a19 a20 a21 a22 a23 a24 a25 a26 a27 a28 a29 a30 a31 a32 a33 a34 a35 a36 a37 a38 a39 a40 a41 a42 a43 a44 a45 a46 a47 a48 a49 a50 a51 a52 a53 a54 a55 a56 a57 a58 a59 a60 a61 a62 a63 a64 a65 a66 a67 a68 a69 a70 a71 a72 a73 a74 a75 a76 a77 a78 a79 a80 a81 a82 a83 a84 a85 a86 a87 a88 a89 a90 a91 a92 a93 a94 a95 a96 a97 a98 a99 a100 a101 a102 a103 a104 a105 a106 a107 a108 a109 a110 a111 a112 a113 a114 a115 a116 a117 a118 a119 a120 a121 a122 a123 a124 a125 a126 a127 a128 a129 a130 a131 a132 a133 a134 a135 a136 a137 a138 a139 a140 a141 a142 a143 a144 a145 a146 a147 a148 a149 a150 a151 a152 a153 a154 a155 a156 : Value} {Q0 : Exit → Act → World → Prop}
    (h : OpS w k P hb b cy sl ts F s (heads s) vs W) (t1 : ∀ o, (W.alloc o).cell? ⟨tb, 1, none⟩ = some (.int .i64 cl)) (t3 : W.cell? ⟨tb, 3, none⟩ = some (.int .i64 sz))
    (hP : ∀ c (ax : Act) (kx : Option Nat) (vx : Value) (wx : World), Q0 (.panic c) (ax.put kx vx) wx → Q0 (.panic c) ax wx)
    (hQ : ∀ (z11 z12 z48 z49 z50 z51 z52 z53 z54 z55 z56 z57 z58 z59 z60 z61 z62 z63 z64 z65 z66 z67 z68 z69 z70 : Value) (s' : LS) (vs' : Nat → Value) (F' : Nat → Prop) (W' : World), OpS w k P hb b cy sl ts F' s' (heads s') vs' W' → s'.r = s.r → Q0 (.exit 1) ⟨#[a0, a1, a2, a3, a4, .pointer (some ⟨k, 0, none⟩), a6, .pointer (some ⟨hb, 0, none⟩), a8, a9, .pointer (some ⟨tb, 0, none⟩), z11, z12, a13, a14, a15, a16, a17, a18, a19, a20, a21, a22, a23, a24, a25, a26, a27, a28, a29, a30, a31, a32, a33, a34, a35, a36, a37, a38, a39, a40, a41, a42, a43, a44, a45, a46, a47, z48, z49, z50, z51, z52, z53, z54, z55, z56, z57, z58, z59, z60, z61, z62, z63, z64, z65, z66, z67, z68, z69, z70, a71, a72, a73, a74, a75, a76, a77, a78, a79, a80, a81, a82, a83, a84, a85, a86, a87, a88, a89, a90, a91, a92, a93, a94, a95, a96, a97, a98, a99, a100, a101, a102, a103, a104, a105, a106, a107, a108, a109, a110, a111, a112, a113, a114, a115, a116, a117, a118, a119, a120, a121, a122, a123, a124, a125, a126, a127, a128, a129, a130, a131, a132, a133, a134, a135, a136, a137, a138, a139, a140, a141, a142, a143, a144, a145, a146, a147, a148, a149, a150, a151, a152, a153, a154, a155, a156], []⟩ W') :
    Code.wp Try.prog (partOf 14 0) Q0 ⟨#[a0, a1, a2, a3, a4, .pointer (some ⟨k, 0, none⟩), a6, .pointer (some ⟨hb, 0, none⟩), a8, a9, .pointer (some ⟨tb, 0, none⟩), a11, a12, a13, a14, a15, a16, a17, a18, a19, a20, a21, a22, a23, a24, a25, a26, a27, a28, a29, a30, a31, a32, a33, a34, a35, a36, a37, a38, a39, a40, a41, a42, a43, a44, a45, a46, a47, a48, a49, a50, a51, a52, a53, a54, a55, a56, a57, a58, a59, a60, a61, a62, a63, a64, a65, a66, a67, a68, a69, a70, a71, a72, a73, a74, a75, a76, a77, a78, a79, a80, a81, a82, a83, a84, a85, a86, a87, a88, a89, a90, a91, a92, a93, a94, a95, a96, a97, a98, a99, a100, a101, a102, a103, a104, a105, a106, a107, a108, a109, a110, a111, a112, a113, a114, a115, a116, a117, a118, a119, a120, a121, a122, a123, a124, a125, a126, a127, a128, a129, a130, a131, a132, a133, a134, a135, a136, a137, a138, a139, a140, a141, a142, a143, a144, a145, a146, a147, a148, a149, a150, a151, a152, a153, a154, a155, a156], []⟩ W := by
  replace hQ := Lib.hid hQ
  replace hQ := hQ.out
  have a1 := low3 cl
  have a2 := low10 sz
  obtain ⟨c, hc⟩ : ∃ c : Nat, cl % 8 = (c : Int) := ⟨(cl % 8).toNat, by omega⟩
  obtain ⟨m, hm⟩ : ∃ m, sz % 1024 = m := ⟨_, rfl⟩
  rw [hc] at a1
  rw [hm] at a2
  have hc8 : c < 8 := by omega
  rcases put_way s hc8 (64 + m) (by omega) (by omega) with ⟨e1, e2⟩ | ⟨e1, e2⟩
  · exact rn_even_a h hc8 a1 a2 (by omega) (by omega) t1 t3 e1 e2 hP hQ
  · exact rn_even_b h hc8 a1 a2 (by omega) (by omega) t1 t3 e1 e2 hP hQ

end Go.Proofs.Ytllmfkodgalklaa
