/- MeterRuns: the reference's In in parts: its pails get what the time makes. Written by gen_mrin.py. -/
import Derived.Test.YtjkgeoipkcjobaaMrNew
import Derived.Deep.CutRange
import Derived.Deep.QuietTactic
import Derived.BigQuiet
namespace Go.Proofs.Ytjkgeoipkcjobaa
open Go.RowKit Go.Joins Go.Deep

/-- The first region of a code. -/
def firstReg : Code → Option Nat
  | .region n _ _ => some n
  | .seq a _ => firstReg a
  | .block _ c => firstReg c
  | .loop c => firstReg c
  | .scope c => firstReg c
  | _ => none
/-- The parts that begin with a region, the largest first. -/
def partsAt (n : Nat) : Code → List Code
  | .seq a b => (if firstReg (.seq a b) = some n then [.seq a b] else []) ++ (partsAt n a ++ partsAt n b)
  | .block i c => (if firstReg c = some n then [.block i c] else []) ++ partsAt n c
  | .loop c => (if firstReg c = some n then [.loop c] else []) ++ partsAt n c
  | .scope c => (if firstReg c = some n then [.scope c] else []) ++ partsAt n c
  | .cond _ a b => partsAt n a ++ partsAt n b
  | .region m o d => if m = n then [.region m o d] else []
  | _ => []
noncomputable def partOf (n i : Nat) : Code := (Try.f16.body.map fun c => (partsAt n c).getD i .skip).getD .skip
/-- The reference's meter. -/
def rrow (m : MS) (va vb : Value) : Array Value := #[.int .i64 m.r, .int .i64 m.bu, .int .i64 m.mo, .int .i64 m.be, .bool m.cp, .bool m.aw, .bool m.sh, .int .i64 m.last, va, vb, .bool m.off]
theorem fillP_le (p q c : Int) : (if p + q ≤ c * 1000000000 then p + q else c * 1000000000) = fillP p q c := by unfold fillP; split <;> split <;> omega
theorem fillL_le (p q c : Int) : (if p + q ≤ c * 1000000000 then 0 else p + q - c * 1000000000) = fillL p q c := by unfold fillL; split <;> split <;> omega
set_option maxRecDepth 1000000 in
set_option maxHeartbeats 16000000 in
theorem ri_r9 {W : World} {mb B C : Nat} {m : MS} {d : Int} {pa pb pn : Addr} {na ca nb cb nn cn : Nat} {a0 a1 a2 a3 a5 a6 a7 a8 a9 a10 a12 a13 a14 a15 a16 a17 a18 a19 a20 a21 a22 a23 a24 a25 a26 a27 a28 a29 a30 a31 a32 a33 a34 a35 a36 a37 a38 a39 a40 a41 a42 a43 a44 a45 a46 a47 a48 a49 a50 a51 a52 a53 a54 a55 a56 a57 a58 a59 a60 a61 a62 a63 a64 a65 a66 a67 a68 a69 a70 a71 a72 a73 a74 a75 a76 a77 a78 a79 a80 a81 a82 a83 a84 a85 a86 a87 a88 a89 a90 a91 a92 a93 a94 a95 a96 a97 a98 a99 a100 a101 a102 a103 a104 a105 a106 a107 a108 a109 a110 a111 a112 a113 a114 a115 a116 a117 a118 a119 a120 a121 a122 a123 a124 a125 a126 a127 a128 a129 a130 a131 a132 : Value} {Q0 : Exit → Act → World → Prop}
    (hM : W.heap[mb]? = some (.cells (rrow m (.slice (some pa) na ca) (.slice (some pb) nb cb)) 39 (0, 0))) (hA : NumZ B W (.slice (some pa) na ca) m.fi) (hN : NumZ C W (.slice (some pn) nn cn) d) (g : m.Good) (hd : d ≤ 1099511627776)
    (hP : ∀ c (ax : Act) (kx : Option Nat) (vx : Value) (wx : World), Q0 (.panic c) (ax.put kx vx) wx → Q0 (.panic c) ax wx)
    (hQ : ∀ (z41 z42 z43 z44 z45 z46 z47 z48 z49 z50 z51 z52 z53 z54 z55 z56 : Value) (v4 v5 : Value) (W' : World), W'.heap[mb]? = some (.cells (rrow m (.slice (some pa) na ca) (.slice (some pb) nb cb)) 39 (0, 0)) → NumZ W.heap.size W' v4 (fillP m.fi (m.r * d) m.bu) → NumZ W.heap.size W' v5 (fillL m.fi (m.r * d) m.bu) → Below W.heap.size W W' → Q0 .normal ⟨#[a0, a1, a2, a3, .pointer (some ⟨mb, 0, none⟩), a5, a6, a7, a8, a9, a10, .slice (some pn) nn cn, v4, v5, a14, a15, a16, a17, a18, a19, a20, a21, a22, a23, a24, a25, a26, a27, a28, a29, a30, a31, a32, a33, a34, a35, a36, a37, a38, a39, a40, z41, z42, z43, z44, z45, z46, z47, z48, z49, z50, z51, z52, z53, z54, z55, z56, a57, a58, a59, a60, a61, a62, a63, a64, a65, a66, a67, a68, a69, a70, a71, a72, a73, a74, a75, a76, a77, a78, a79, a80, a81, a82, a83, a84, a85, a86, a87, a88, a89, a90, a91, a92, a93, a94, a95, a96, a97, a98, a99, a100, a101, a102, a103, a104, a105, a106, a107, a108, a109, a110, a111, a112, a113, a114, a115, a116, a117, a118, a119, a120, a121, a122, a123, a124, a125, a126, a127, a128, a129, a130, a131, a132], []⟩ W') :
    Code.wp Try.prog (partOf 9 1) Q0 ⟨#[a0, a1, a2, a3, .pointer (some ⟨mb, 0, none⟩), a5, a6, a7, a8, a9, a10, .slice (some pn) nn cn, a12, a13, a14, a15, a16, a17, a18, a19, a20, a21, a22, a23, a24, a25, a26, a27, a28, a29, a30, a31, a32, a33, a34, a35, a36, a37, a38, a39, a40, a41, a42, a43, a44, a45, a46, a47, a48, a49, a50, a51, a52, a53, a54, a55, a56, a57, a58, a59, a60, a61, a62, a63, a64, a65, a66, a67, a68, a69, a70, a71, a72, a73, a74, a75, a76, a77, a78, a79, a80, a81, a82, a83, a84, a85, a86, a87, a88, a89, a90, a91, a92, a93, a94, a95, a96, a97, a98, a99, a100, a101, a102, a103, a104, a105, a106, a107, a108, a109, a110, a111, a112, a113, a114, a115, a116, a117, a118, a119, a120, a121, a122, a123, a124, a125, a126, a127, a128, a129, a130, a131, a132], []⟩ W := by
  replace hQ := Lib.hid hQ
  have HPV := Lib.hid hA
  have HDN := Lib.hid hN
  have g1 := g.r0
  have g2 := g.r1
  have g3 := g.bu0
  have g4 := g.bu1
  have g5 := g.f0
  have g6 := g.f1
  have HLIM : Hid (d < 1208925819614629174706176 ∧ m.r < 1208925819614629174706176 ∧ m.fi < 604462909807314587353088) := Lib.hid ⟨by omega, by omega, by omega⟩
  have hpr := mul_bd hN.1 hd g1 g2
  have HPR : Hid (d * m.r < 604462909807314587353088) := Lib.hid (by omega)
  have HAR := Lib.hid (fun W => rabs_any m.r g1 (by omega) W)
  have HBM := Lib.hid (fun W => rbits_any m.bu g3 (by omega) W)
  have HEP := fillP_le m.fi (d * m.r) m.bu
  have HEL := fillL_le m.fi (d * m.r) m.bu
  rw [Int.mul_comm d m.r] at HEP HEL
  clear g g1 g2 g3 g4 g5 g6 hpr hA hN hd
  conv => arg 2; whnf
  refine wp_region_held_drew (S := fun V => V.heap[mb]? = some (.cells (rrow m (.slice (some pa) na ca) (.slice (some pb) nb cb)) 39 (0, 0))) (by kernel_rfl) hM (fun h0 => ?_)
  refine hTakeS (i := 0) (k := 42) (v := .pointer (some ⟨mb, 8, none⟩)) rfl rfl (by kernel_rfl) (by kernel_rfl) (by kernel_rfl) (fun cx ax wx hx => hP cx ax _ _ wx hx) (yieldsIf_val (by rfl) (by intro W; go_simp)) h0 ?_
  simp only [List.setIfInBounds_toArray, List.set_cons_zero, List.set_cons_succ]
  refine hTakeS (i := 1) (k := 43) (v := .slice (some pa) na ca) rfl rfl (by kernel_rfl) (by kernel_rfl) (by kernel_rfl) (fun cx ax wx hx => hP cx ax _ _ wx hx) (.inl ⟨by rfl, fun W hW => by have c9 : W.cell? ⟨mb, 8, none⟩ = some (.slice (some pa) na ca) := cell_of_row _ _ _ _ _ _ hW; go_simp⟩) h0 ?_
  simp only [List.setIfInBounds_toArray, List.set_cons_zero, List.set_cons_succ]
  refine hTakeS (i := 2) (k := 44) (v := .slice (some pn) nn cn) rfl rfl (by kernel_rfl) (by kernel_rfl) (by kernel_rfl) (fun cx ax wx hx => hP cx ax _ _ wx hx) (yieldsIf_val (by rfl) (by intro W; go_simp)) h0 ?_
  simp only [List.setIfInBounds_toArray, List.set_cons_zero, List.set_cons_succ]
  refine hTakeS (i := 3) (k := 45) (v := .pointer (some ⟨mb, 0, none⟩)) rfl rfl (by kernel_rfl) (by kernel_rfl) (by kernel_rfl) (fun cx ax wx hx => hP cx ax _ _ wx hx) (yieldsIf_val (by rfl) (by intro W; go_simp)) h0 ?_
  simp only [List.setIfInBounds_toArray, List.set_cons_zero, List.set_cons_succ]
  refine hTakeS (i := 4) (k := 46) (v := .pointer (some ⟨mb, 0, none⟩)) rfl rfl (by kernel_rfl) (by kernel_rfl) (by kernel_rfl) (fun cx ax wx hx => hP cx ax _ _ wx hx) (yieldsIf_val (by rfl) (by intro W; go_simp)) h0 ?_
  simp only [List.setIfInBounds_toArray, List.set_cons_zero, List.set_cons_succ]
  refine hTakeS (i := 5) (k := 47) (v := .int .i64 m.r) rfl rfl (by kernel_rfl) (by kernel_rfl) (by kernel_rfl) (fun cx ax wx hx => hP cx ax _ _ wx hx) (.inl ⟨by rfl, fun W hW => by have c9 : W.cell? ⟨mb, 0, none⟩ = some (.int .i64 m.r) := cell_of_row _ _ _ _ _ _ hW; go_simp⟩) h0 ?_
  simp only [List.setIfInBounds_toArray, List.set_cons_zero, List.set_cons_succ]
  refine hTakeS (i := 8) (k := 50) (v := .pointer (some ⟨mb, 0, none⟩)) rfl rfl (by kernel_rfl) (by kernel_rfl) (by kernel_rfl) (fun cx ax wx hx => hP cx ax _ _ wx hx) (yieldsIf_val (by rfl) (by intro W; go_simp)) h0 ?_
  simp only [List.setIfInBounds_toArray, List.set_cons_zero, List.set_cons_succ]
  refine hTakeS (i := 9) (k := 51) (v := .pointer (some ⟨mb, 1, none⟩)) rfl rfl (by kernel_rfl) (by kernel_rfl) (by kernel_rfl) (fun cx ax wx hx => hP cx ax _ _ wx hx) (yieldsIf_val (by rfl) (by intro W; go_simp)) h0 ?_
  simp only [List.setIfInBounds_toArray, List.set_cons_zero, List.set_cons_succ]
  refine hTakeS (i := 10) (k := 52) (v := .int .i64 m.bu) rfl rfl (by kernel_rfl) (by kernel_rfl) (by kernel_rfl) (fun cx ax wx hx => hP cx ax _ _ wx hx) (.inl ⟨by rfl, fun W hW => by have c9 : W.cell? ⟨mb, 1, none⟩ = some (.int .i64 m.bu) := cell_of_row _ _ _ _ _ _ hW; go_simp⟩) h0 ?_
  simp only [List.setIfInBounds_toArray, List.set_cons_zero, List.set_cons_succ]
  refine hCallR (i := 6) (k := 48) (by kernel_rfl) rfl rfl (by rfl) 22 #[.int .i64 m.r] (by go_simp) (HAR.out _) ?_
  rintro e W1 ⟨v1, rfl, hn1, hb1⟩
  obtain ⟨p1, n1, c1, rfl⟩ := hn1.slice
  have hk1 := (hb1.block _ (lt_of_heap h0)).trans h0
  have HN1 := Lib.hid hn1
  have HP1 := Lib.hid ((HPV.out.below (bDr (bRef W) 1)).below hb1)
  have HD1 := Lib.hid ((HDN.out.below (bDr (bRef W) 1)).below hb1)
  have HB1 := Lib.hid (bTr (bDr (bRef W) 1) hb1)
  refine ⟨_, rfl, hk1, ?_⟩
  simp only [List.setIfInBounds_toArray, List.set_cons_zero, List.set_cons_succ]
  refine hCallR (i := 7) (k := 49) (by kernel_rfl) rfl rfl (by rfl) 24 #[.slice (some pn) nn cn, .slice (some p1) n1 c1] (by go_simp) (rmul_any HD1.out HN1.out (by have := HLIM.out; omega) (by have := HLIM.out; omega)) ?_
  rintro e W2 ⟨v2, rfl, hn2, hb2⟩
  obtain ⟨p2, n2, c2, rfl⟩ := hn2.slice
  have hk2 := (hb2.block _ (lt_of_heap hk1)).trans hk1
  have HN2 := Lib.hid hn2
  have HP2 := Lib.hid (HP1.out.below hb2)
  have HB2 := Lib.hid (bTr HB1.out hb2)
  refine ⟨_, rfl, hk2, ?_⟩
  simp only [List.setIfInBounds_toArray, List.set_cons_zero, List.set_cons_succ]
  refine hCallR (i := 11) (k := 53) (by kernel_rfl) rfl rfl (by rfl) 21 #[.int .i64 m.bu] (by go_simp) (HBM.out _) ?_
  rintro e W3 ⟨v3, rfl, hn3, hb3⟩
  obtain ⟨p3, n3, c3, rfl⟩ := hn3.slice
  have hk3 := (hb3.block _ (lt_of_heap hk2)).trans hk2
  have HN3 := Lib.hid (hn3.down HB2.out.size)
  have HP3 := Lib.hid (HP2.out.below hb3)
  have HM3 := Lib.hid (HN2.out.below hb3)
  have HB3 := Lib.hid (bTr HB2.out hb3)
  refine ⟨_, rfl, hk3, ?_⟩
  simp only [List.setIfInBounds_toArray, List.set_cons_zero, List.set_cons_succ]
  refine hCallR (i := 12) (k := 54) (by kernel_rfl) rfl rfl (by rfl) 23 #[.slice (some pa) na ca, .slice (some p2) n2 c2, .slice (some p3) n3 c3] (by go_simp) (rfill_any HP3.out HM3.out HN3.out HB3.out.size (by have := HLIM.out; omega) (by have := HPR.out; omega)) ?_
  rintro e W4 ⟨v4, v5, rfl, hn4, hn5, hb4⟩
  have hk4 := (hb4.block _ (lt_of_heap hk3)).trans hk3
  have HB4 := Lib.hid (bTr HB3.out hb4)
  have HN4 := Lib.hid hn4
  have HN5 := Lib.hid hn5
  refine ⟨_, rfl, hk4, ?_⟩
  simp only [List.setIfInBounds_toArray, List.set_cons_zero, List.set_cons_succ]
  refine hTakeS (i := 13) (k := 41) (v := .tuple #[v4, v5]) rfl rfl (by kernel_rfl) (by kernel_rfl) (by kernel_rfl) (fun cx ax wx hx => hP cx ax _ _ wx hx) (yieldsIf_val (by rfl) (by intro W; go_simp)) hk4 ?_
  simp only [List.setIfInBounds_toArray, List.set_cons_zero, List.set_cons_succ]
  refine hTakeS (i := 14) (k := 55) (v := v4) rfl rfl (by kernel_rfl) (by kernel_rfl) (by kernel_rfl) (fun cx ax wx hx => hP cx ax _ _ wx hx) (yieldsIf_val (by rfl) (by intro W; go_simp)) hk4 ?_
  simp only [List.setIfInBounds_toArray, List.set_cons_zero, List.set_cons_succ]
  refine hTakeS (i := 15) (k := 56) (v := v5) rfl rfl (by kernel_rfl) (by kernel_rfl) (by kernel_rfl) (fun cx ax wx hx => hP cx ax _ _ wx hx) (yieldsIf_val (by rfl) (by intro W; go_simp)) hk4 ?_
  simp only [List.setIfInBounds_toArray, List.set_cons_zero, List.set_cons_succ]
  refine hTakeS (i := 16) (k := 12) (v := v4) rfl rfl (by kernel_rfl) (by kernel_rfl) (by kernel_rfl) (fun cx ax wx hx => hP cx ax _ _ wx hx) (yieldsIf_val (by rfl) (by intro W; go_simp)) hk4 ?_
  simp only [List.setIfInBounds_toArray, List.set_cons_zero, List.set_cons_succ]
  refine hTakeS (i := 17) (k := 13) (v := v5) rfl rfl (by kernel_rfl) (by kernel_rfl) (by kernel_rfl) (fun cx ax wx hx => hP cx ax _ _ wx hx) (yieldsIf_val (by rfl) (by intro W; go_simp)) hk4 ?_
  simp only [List.setIfInBounds_toArray, List.set_cons_zero, List.set_cons_succ]
  refine wpAnyH_done (by kernel_rfl) ?_ _
  rw [Int.mul_comm d m.r] at hn4 hn5
  rw [HEP] at hn4
  rw [HEL] at hn5
  exact hQ.out _ _ _ _ _ _ _ _ _ _ _ _ _ _ _ _ _ _ W4 hk4 hn4 hn5 HB4.out
set_option maxRecDepth 1000000 in
set_option maxHeartbeats 16000000 in
theorem ri_r10 {W : World} {mb B C : Nat} {m : MS} {d : Int} {pa pb pn : Addr} {na ca nb cb nn cn : Nat} {a0 a1 a2 a3 a5 a6 a7 a8 a9 a10 a12 a13 a14 a15 a16 a17 a18 a19 a20 a21 a22 a23 a24 a25 a26 a27 a28 a29 a30 a31 a32 a33 a34 a35 a36 a37 a38 a39 a40 a41 a42 a43 a44 a45 a46 a47 a48 a49 a50 a51 a52 a53 a54 a55 a56 a57 a58 a59 a60 a61 a62 a63 a64 a65 a66 a67 a68 a69 a70 a71 a72 a73 a74 a75 a76 a77 a78 a79 a80 a81 a82 a83 a84 a85 a86 a87 a88 a89 a90 a91 a92 a93 a94 a95 a96 a97 a98 a99 a100 a101 a102 a103 a104 a105 a106 a107 a108 a109 a110 a111 a112 a113 a114 a115 a116 a117 a118 a119 a120 a121 a122 a123 a124 a125 a126 a127 a128 a129 a130 a131 a132 : Value} {Q0 : Exit → Act → World → Prop}
    (hM : W.heap[mb]? = some (.cells (rrow m (.slice (some pa) na ca) (.slice (some pb) nb cb)) 39 (0, 0))) (hA : NumZ B W (.slice (some pb) nb cb) m.se) (hN : NumZ C W (.slice (some pn) nn cn) d) (g : m.Good) (hd : d ≤ 1099511627776)
    (hP : ∀ c (ax : Act) (kx : Option Nat) (vx : Value) (wx : World), Q0 (.panic c) (ax.put kx vx) wx → Q0 (.panic c) ax wx)
    (hQ : ∀ (z57 z58 z59 z60 z61 z62 z63 z64 z65 z66 z67 z68 z69 z70 z71 z72 : Value) (v4 v5 : Value) (W' : World), W'.heap[mb]? = some (.cells (rrow m (.slice (some pa) na ca) (.slice (some pb) nb cb)) 39 (0, 0)) → NumZ W.heap.size W' v4 (fillP m.se (m.mo * d) m.be) → NumZ W.heap.size W' v5 (fillL m.se (m.mo * d) m.be) → Below W.heap.size W W' → Q0 .normal ⟨#[a0, a1, a2, a3, .pointer (some ⟨mb, 0, none⟩), a5, a6, a7, a8, a9, a10, .slice (some pn) nn cn, a12, a13, v4, v5, a16, a17, a18, a19, a20, a21, a22, a23, a24, a25, a26, a27, a28, a29, a30, a31, a32, a33, a34, a35, a36, a37, a38, a39, a40, a41, a42, a43, a44, a45, a46, a47, a48, a49, a50, a51, a52, a53, a54, a55, a56, z57, z58, z59, z60, z61, z62, z63, z64, z65, z66, z67, z68, z69, z70, z71, z72, a73, a74, a75, a76, a77, a78, a79, a80, a81, a82, a83, a84, a85, a86, a87, a88, a89, a90, a91, a92, a93, a94, a95, a96, a97, a98, a99, a100, a101, a102, a103, a104, a105, a106, a107, a108, a109, a110, a111, a112, a113, a114, a115, a116, a117, a118, a119, a120, a121, a122, a123, a124, a125, a126, a127, a128, a129, a130, a131, a132], []⟩ W') :
    Code.wp Try.prog (partOf 10 1) Q0 ⟨#[a0, a1, a2, a3, .pointer (some ⟨mb, 0, none⟩), a5, a6, a7, a8, a9, a10, .slice (some pn) nn cn, a12, a13, a14, a15, a16, a17, a18, a19, a20, a21, a22, a23, a24, a25, a26, a27, a28, a29, a30, a31, a32, a33, a34, a35, a36, a37, a38, a39, a40, a41, a42, a43, a44, a45, a46, a47, a48, a49, a50, a51, a52, a53, a54, a55, a56, a57, a58, a59, a60, a61, a62, a63, a64, a65, a66, a67, a68, a69, a70, a71, a72, a73, a74, a75, a76, a77, a78, a79, a80, a81, a82, a83, a84, a85, a86, a87, a88, a89, a90, a91, a92, a93, a94, a95, a96, a97, a98, a99, a100, a101, a102, a103, a104, a105, a106, a107, a108, a109, a110, a111, a112, a113, a114, a115, a116, a117, a118, a119, a120, a121, a122, a123, a124, a125, a126, a127, a128, a129, a130, a131, a132], []⟩ W := by
  replace hQ := Lib.hid hQ
  have HPV := Lib.hid hA
  have HDN := Lib.hid hN
  have g1 := g.mo0
  have g2 := g.mo1
  have g3 := g.be0
  have g4 := g.be1
  have g5 := g.s0
  have g6 := g.s1
  have HLIM : Hid (d < 1208925819614629174706176 ∧ m.mo < 1208925819614629174706176 ∧ m.se < 604462909807314587353088) := Lib.hid ⟨by omega, by omega, by omega⟩
  have hpr := mul_bd hN.1 hd g1 g2
  have HPR : Hid (d * m.mo < 604462909807314587353088) := Lib.hid (by omega)
  have HAR := Lib.hid (fun W => rabs_any m.mo g1 (by omega) W)
  have HBM := Lib.hid (fun W => rbits_any m.be g3 (by omega) W)
  have HEP := fillP_le m.se (d * m.mo) m.be
  have HEL := fillL_le m.se (d * m.mo) m.be
  rw [Int.mul_comm d m.mo] at HEP HEL
  clear g g1 g2 g3 g4 g5 g6 hpr hA hN hd
  conv => arg 2; whnf
  refine wp_region_held_drew (S := fun V => V.heap[mb]? = some (.cells (rrow m (.slice (some pa) na ca) (.slice (some pb) nb cb)) 39 (0, 0))) (by kernel_rfl) hM (fun h0 => ?_)
  refine hTakeS (i := 0) (k := 58) (v := .pointer (some ⟨mb, 9, none⟩)) rfl rfl (by kernel_rfl) (by kernel_rfl) (by kernel_rfl) (fun cx ax wx hx => hP cx ax _ _ wx hx) (yieldsIf_val (by rfl) (by intro W; go_simp)) h0 ?_
  simp only [List.setIfInBounds_toArray, List.set_cons_zero, List.set_cons_succ]
  refine hTakeS (i := 1) (k := 59) (v := .slice (some pb) nb cb) rfl rfl (by kernel_rfl) (by kernel_rfl) (by kernel_rfl) (fun cx ax wx hx => hP cx ax _ _ wx hx) (.inl ⟨by rfl, fun W hW => by have c9 : W.cell? ⟨mb, 9, none⟩ = some (.slice (some pb) nb cb) := cell_of_row _ _ _ _ _ _ hW; go_simp⟩) h0 ?_
  simp only [List.setIfInBounds_toArray, List.set_cons_zero, List.set_cons_succ]
  refine hTakeS (i := 2) (k := 60) (v := .slice (some pn) nn cn) rfl rfl (by kernel_rfl) (by kernel_rfl) (by kernel_rfl) (fun cx ax wx hx => hP cx ax _ _ wx hx) (yieldsIf_val (by rfl) (by intro W; go_simp)) h0 ?_
  simp only [List.setIfInBounds_toArray, List.set_cons_zero, List.set_cons_succ]
  refine hTakeS (i := 3) (k := 61) (v := .pointer (some ⟨mb, 0, none⟩)) rfl rfl (by kernel_rfl) (by kernel_rfl) (by kernel_rfl) (fun cx ax wx hx => hP cx ax _ _ wx hx) (yieldsIf_val (by rfl) (by intro W; go_simp)) h0 ?_
  simp only [List.setIfInBounds_toArray, List.set_cons_zero, List.set_cons_succ]
  refine hTakeS (i := 4) (k := 62) (v := .pointer (some ⟨mb, 2, none⟩)) rfl rfl (by kernel_rfl) (by kernel_rfl) (by kernel_rfl) (fun cx ax wx hx => hP cx ax _ _ wx hx) (yieldsIf_val (by rfl) (by intro W; go_simp)) h0 ?_
  simp only [List.setIfInBounds_toArray, List.set_cons_zero, List.set_cons_succ]
  refine hTakeS (i := 5) (k := 63) (v := .int .i64 m.mo) rfl rfl (by kernel_rfl) (by kernel_rfl) (by kernel_rfl) (fun cx ax wx hx => hP cx ax _ _ wx hx) (.inl ⟨by rfl, fun W hW => by have c9 : W.cell? ⟨mb, 2, none⟩ = some (.int .i64 m.mo) := cell_of_row _ _ _ _ _ _ hW; go_simp⟩) h0 ?_
  simp only [List.setIfInBounds_toArray, List.set_cons_zero, List.set_cons_succ]
  refine hTakeS (i := 8) (k := 66) (v := .pointer (some ⟨mb, 0, none⟩)) rfl rfl (by kernel_rfl) (by kernel_rfl) (by kernel_rfl) (fun cx ax wx hx => hP cx ax _ _ wx hx) (yieldsIf_val (by rfl) (by intro W; go_simp)) h0 ?_
  simp only [List.setIfInBounds_toArray, List.set_cons_zero, List.set_cons_succ]
  refine hTakeS (i := 9) (k := 67) (v := .pointer (some ⟨mb, 3, none⟩)) rfl rfl (by kernel_rfl) (by kernel_rfl) (by kernel_rfl) (fun cx ax wx hx => hP cx ax _ _ wx hx) (yieldsIf_val (by rfl) (by intro W; go_simp)) h0 ?_
  simp only [List.setIfInBounds_toArray, List.set_cons_zero, List.set_cons_succ]
  refine hTakeS (i := 10) (k := 68) (v := .int .i64 m.be) rfl rfl (by kernel_rfl) (by kernel_rfl) (by kernel_rfl) (fun cx ax wx hx => hP cx ax _ _ wx hx) (.inl ⟨by rfl, fun W hW => by have c9 : W.cell? ⟨mb, 3, none⟩ = some (.int .i64 m.be) := cell_of_row _ _ _ _ _ _ hW; go_simp⟩) h0 ?_
  simp only [List.setIfInBounds_toArray, List.set_cons_zero, List.set_cons_succ]
  refine hCallR (i := 6) (k := 64) (by kernel_rfl) rfl rfl (by rfl) 22 #[.int .i64 m.mo] (by go_simp) (HAR.out _) ?_
  rintro e W1 ⟨v1, rfl, hn1, hb1⟩
  obtain ⟨p1, n1, c1, rfl⟩ := hn1.slice
  have hk1 := (hb1.block _ (lt_of_heap h0)).trans h0
  have HN1 := Lib.hid hn1
  have HP1 := Lib.hid ((HPV.out.below (bDr (bRef W) 1)).below hb1)
  have HD1 := Lib.hid ((HDN.out.below (bDr (bRef W) 1)).below hb1)
  have HB1 := Lib.hid (bTr (bDr (bRef W) 1) hb1)
  refine ⟨_, rfl, hk1, ?_⟩
  simp only [List.setIfInBounds_toArray, List.set_cons_zero, List.set_cons_succ]
  refine hCallR (i := 7) (k := 65) (by kernel_rfl) rfl rfl (by rfl) 24 #[.slice (some pn) nn cn, .slice (some p1) n1 c1] (by go_simp) (rmul_any HD1.out HN1.out (by have := HLIM.out; omega) (by have := HLIM.out; omega)) ?_
  rintro e W2 ⟨v2, rfl, hn2, hb2⟩
  obtain ⟨p2, n2, c2, rfl⟩ := hn2.slice
  have hk2 := (hb2.block _ (lt_of_heap hk1)).trans hk1
  have HN2 := Lib.hid hn2
  have HP2 := Lib.hid (HP1.out.below hb2)
  have HB2 := Lib.hid (bTr HB1.out hb2)
  refine ⟨_, rfl, hk2, ?_⟩
  simp only [List.setIfInBounds_toArray, List.set_cons_zero, List.set_cons_succ]
  refine hCallR (i := 11) (k := 69) (by kernel_rfl) rfl rfl (by rfl) 21 #[.int .i64 m.be] (by go_simp) (HBM.out _) ?_
  rintro e W3 ⟨v3, rfl, hn3, hb3⟩
  obtain ⟨p3, n3, c3, rfl⟩ := hn3.slice
  have hk3 := (hb3.block _ (lt_of_heap hk2)).trans hk2
  have HN3 := Lib.hid (hn3.down HB2.out.size)
  have HP3 := Lib.hid (HP2.out.below hb3)
  have HM3 := Lib.hid (HN2.out.below hb3)
  have HB3 := Lib.hid (bTr HB2.out hb3)
  refine ⟨_, rfl, hk3, ?_⟩
  simp only [List.setIfInBounds_toArray, List.set_cons_zero, List.set_cons_succ]
  refine hCallR (i := 12) (k := 70) (by kernel_rfl) rfl rfl (by rfl) 23 #[.slice (some pb) nb cb, .slice (some p2) n2 c2, .slice (some p3) n3 c3] (by go_simp) (rfill_any HP3.out HM3.out HN3.out HB3.out.size (by have := HLIM.out; omega) (by have := HPR.out; omega)) ?_
  rintro e W4 ⟨v4, v5, rfl, hn4, hn5, hb4⟩
  have hk4 := (hb4.block _ (lt_of_heap hk3)).trans hk3
  have HB4 := Lib.hid (bTr HB3.out hb4)
  have HN4 := Lib.hid hn4
  have HN5 := Lib.hid hn5
  refine ⟨_, rfl, hk4, ?_⟩
  simp only [List.setIfInBounds_toArray, List.set_cons_zero, List.set_cons_succ]
  refine hTakeS (i := 13) (k := 57) (v := .tuple #[v4, v5]) rfl rfl (by kernel_rfl) (by kernel_rfl) (by kernel_rfl) (fun cx ax wx hx => hP cx ax _ _ wx hx) (yieldsIf_val (by rfl) (by intro W; go_simp)) hk4 ?_
  simp only [List.setIfInBounds_toArray, List.set_cons_zero, List.set_cons_succ]
  refine hTakeS (i := 14) (k := 71) (v := v4) rfl rfl (by kernel_rfl) (by kernel_rfl) (by kernel_rfl) (fun cx ax wx hx => hP cx ax _ _ wx hx) (yieldsIf_val (by rfl) (by intro W; go_simp)) hk4 ?_
  simp only [List.setIfInBounds_toArray, List.set_cons_zero, List.set_cons_succ]
  refine hTakeS (i := 15) (k := 72) (v := v5) rfl rfl (by kernel_rfl) (by kernel_rfl) (by kernel_rfl) (fun cx ax wx hx => hP cx ax _ _ wx hx) (yieldsIf_val (by rfl) (by intro W; go_simp)) hk4 ?_
  simp only [List.setIfInBounds_toArray, List.set_cons_zero, List.set_cons_succ]
  refine hTakeS (i := 16) (k := 14) (v := v4) rfl rfl (by kernel_rfl) (by kernel_rfl) (by kernel_rfl) (fun cx ax wx hx => hP cx ax _ _ wx hx) (yieldsIf_val (by rfl) (by intro W; go_simp)) hk4 ?_
  simp only [List.setIfInBounds_toArray, List.set_cons_zero, List.set_cons_succ]
  refine hTakeS (i := 17) (k := 15) (v := v5) rfl rfl (by kernel_rfl) (by kernel_rfl) (by kernel_rfl) (fun cx ax wx hx => hP cx ax _ _ wx hx) (yieldsIf_val (by rfl) (by intro W; go_simp)) hk4 ?_
  simp only [List.setIfInBounds_toArray, List.set_cons_zero, List.set_cons_succ]
  refine wpAnyH_done (by kernel_rfl) ?_ _
  rw [Int.mul_comm d m.mo] at hn4 hn5
  rw [HEP] at hn4
  rw [HEL] at hn5
  exact hQ.out _ _ _ _ _ _ _ _ _ _ _ _ _ _ _ _ _ _ W4 hk4 hn4 hn5 HB4.out

end Go.Proofs.Ytjkgeoipkcjobaa
