/- For every list of gates and every row of steps PortOpen answers true: what goes out has its gate open for all the time that it needs, and no frame of a higher class that could go waits. No condition. Written by gen_poopen.py. -/
import Derived.Test.YtllmfkodgalklaaPoOpH
import Derived.Test.YtllmfkodgalklaaPoOpI
namespace Go.Proofs.Ytllmfkodgalklaa
open Go.RowKit Go.Joins Go.Deep

set_option maxRecDepth 1000000 in
set_option maxHeartbeats 16000000 in
theorem popen_d (b cy : Int) (sp : Option Addr) (nt sc : Nat) (ts : List (Int × Int)) (p : Option Addr) (n cc : Nat) (w : World) (ht : TArg w (.slice sp nt sc) ts) (hnt : ts.length = nt) (ha : SArg w (.slice p n cc) n) (h1 : ¬ 64 < nt) (h2 : ¬ 40 < n) (hz : chkV b cy ts = 0) : Calls Try.prog 5 #[.agg #[.int .i64 b, .int .i64 cy, .slice sp nt sc], .slice p n cc] w fun e w' => e = .returned (.bool true) ∧ Below w.heap.size w w' := by
  have HH := Lib.hid lhead_ret
  have HE := Lib.hid (fun n W => eight_lit n W)
  have HK0 : Hid ((w.alloc (.cells #[.int .i64 b, .int .i64 cy, .slice sp nt sc] 24)).heap[w.heap.size]? = some (.cells #[.int .i64 b, .int .i64 cy, .slice sp nt sc] 24)) := Lib.hid (heap_alloc_one w _)
  have d1 : decide ((64 : Int) < (nt : Int)) = false := decide_eq_false (by omega)
  have d2 : decide ((40 : Int) < (n : Int)) = false := decide_eq_false (by omega)
  have HT := Lib.hid ht
  have HNT := Lib.hid hnt
  have HA := Lib.hid ha
  have HN40 := Lib.hid h2
  have HN : Hid (∀ V, Below w.heap.size w V → TArg V (.slice sp nt sc) ts → Calls Try.prog 8 #[.agg #[.int .i64 b, .int .i64 cy, .slice sp nt sc], .agg #[.int .i64 30, .int .i64 30, .int .i64 30, .int .i64 30, .int .i64 30, .int .i64 30, .int .i64 30, .int .i64 30]] V fun e w' => ∃ k P, e = .returned (.tuple #[.pointer (some ⟨k, 0, none⟩), .int .i64 0]) ∧ V.heap.size ≤ k ∧ V.heap.size ≤ P ∧ PoL w w' k P (fun j => j = P) (PL.new b cy ts) (LS.new (fun _ => 30)) ∧ Below V.heap.size V w') := Lib.hid (fun V hV hT => pnew_ok hV b cy (.slice sp nt sc) ts hT hz (fun _ => 30) (fun _ _ => ⟨show (0 : Int) ≤ 30 by decide, show (30 : Int) ≤ 4096 by decide⟩))
  clear ht hnt hz ha h1 h2
  go_enter Try.func5, Try.ntmps5
  refine wp_hideP (fun cx ax kx vx wx hx => by cases kx <;> exact hx) (fun Q9 hQ9 hP9 => ?_)
  have HQ9 := Lib.hid hQ9
  have HP9 := Lib.hid hP9
  clear hQ9 hP9
  go_upto_region 5 with (go_at_call 7; (with_reducible refine (HH.out _).mono ?_); rintro e x1 ⟨rfl, hb⟩; have HB1 := Lib.hid (bTr (bAl (bRef w) (.cells #[.int .i64 b, .int .i64 cy, .slice sp nt sc] 24)) hb); have HK1 := Lib.hid ((hb.block _ (lt_of_heap HK0.out)).trans HK0.out); have l0 : x1.cell? ⟨w.heap.size, 0, none⟩ = some (.int .i64 b) := cell_of_row _ _ _ _ _ _ HK1.out; have l1 : x1.cell? ⟨w.heap.size, 1, none⟩ = some (.int .i64 cy) := cell_of_row _ _ _ _ _ _ HK1.out; have l2 : x1.cell? ⟨w.heap.size, 2, none⟩ = some (.slice sp nt sc) := cell_of_row _ _ _ _ _ _ HK1.out; clear hb)
  refine wp_region_held_drew (S := fun V => V.cell? ⟨w.heap.size, 0, none⟩ = some (.int .i64 b) ∧ V.cell? ⟨w.heap.size, 1, none⟩ = some (.int .i64 cy) ∧ V.cell? ⟨w.heap.size, 2, none⟩ = some (.slice sp nt sc)) (by kernel_rfl) ⟨l0, l1, l2⟩ (fun h0 => ?_)
  refine hTakeS (i := 0) (k := 30) (v := .agg #[.int .i64 b, .int .i64 cy, .slice sp nt sc]) rfl rfl (by kernel_rfl) (by kernel_rfl) (by kernel_rfl) (fun cx ax wx hx => HP9.out cx ax _ _ wx hx) (.inl ⟨by rfl, fun W hW => by obtain ⟨b0, b1, b2⟩ := hW; go_simp⟩) h0 ?_
  simp only [List.setIfInBounds_toArray, List.set_cons_zero, List.set_cons_succ]
  refine hCallR (i := 1) (k := 31) (by kernel_rfl) rfl rfl (by rfl) 9 #[.int .i64 30] (by go_simp) (HE.out 30 _) ?_
  rintro e v1 ⟨rfl, hb1⟩
  have s1 := And.intro ((hb1.cell (block_lt_cell h0.1)).trans h0.1) (And.intro ((hb1.cell (block_lt_cell h0.2.1)).trans h0.2.1) ((hb1.cell (block_lt_cell h0.2.2)).trans h0.2.2))
  refine ⟨_, rfl, s1, ?_⟩
  simp only [List.setIfInBounds_toArray, List.set_cons_zero, List.set_cons_succ]
  have bd : Below x1.heap.size x1 x1.drew := ⟨rfl, rfl, rfl, Nat.le_refl _, fun _ _ => rfl⟩
  have HB2 := Lib.hid (bTr (bTr HB1.out bd) hb1)
  refine hCallR (i := 2) (k := 32) (by kernel_rfl) rfl rfl (by rfl) 8 #[.agg #[.int .i64 b, .int .i64 cy, .slice sp nt sc], .agg #[.int .i64 30, .int .i64 30, .int .i64 30, .int .i64 30, .int .i64 30, .int .i64 30, .int .i64 30, .int .i64 30]] (by go_simp) (HN.out _ HB2.out (HT.out.below HB2.out)) ?_
  rintro e v2 ⟨k, P, rfl, hk1, hk2, hpo, hb2⟩
  have s2 := And.intro ((hb2.cell (block_lt_cell s1.1)).trans s1.1) (And.intro ((hb2.cell (block_lt_cell s1.2.1)).trans s1.2.1) ((hb2.cell (block_lt_cell s1.2.2)).trans s1.2.2))
  have HB3 := Lib.hid (bTr HB2.out hb2)
  have hlt := block_lt_cell s1.1
  have HLT : Hid (w.heap.size < k ∧ w.heap.size < P) := Lib.hid ⟨by have e : (⟨w.heap.size, 0, none⟩ : Addr).block = w.heap.size := rfl; omega, by have e : (⟨w.heap.size, 0, none⟩ : Addr).block = w.heap.size := rfl; omega⟩
  have HL3 : Hid (LB v2 w.heap.size b cy (.slice sp nt sc)) := Lib.hid ((hb2.block _ hlt).trans ((hb1.block _ (block_lt_cell h0.1)).trans HK1.out))
  have HPO := Lib.hid hpo
  clear hlt
  refine ⟨_, rfl, s2, ?_⟩
  simp only [List.setIfInBounds_toArray, List.set_cons_zero, List.set_cons_succ]
  refine hTakeS (i := 3) (k := 29) (v := .tuple #[.pointer (some ⟨k, 0, none⟩), .int .i64 0]) rfl rfl (by kernel_rfl) (by kernel_rfl) (by kernel_rfl) (fun cx ax wx hx => HP9.out cx ax _ _ wx hx) (yieldsIf_val (by rfl) (by intro W; go_simp)) s2 ?_
  simp only [List.setIfInBounds_toArray, List.set_cons_zero, List.set_cons_succ]
  refine hTakeS (i := 4) (k := 33) (v := .pointer (some ⟨k, 0, none⟩)) rfl rfl (by kernel_rfl) (by kernel_rfl) (by kernel_rfl) (fun cx ax wx hx => HP9.out cx ax _ _ wx hx) (yieldsIf_val (by rfl) (by intro W; go_simp)) s2 ?_
  simp only [List.setIfInBounds_toArray, List.set_cons_zero, List.set_cons_succ]
  refine hTakeS (i := 5) (k := 34) (v := .int .i64 0) rfl rfl (by kernel_rfl) (by kernel_rfl) (by kernel_rfl) (fun cx ax wx hx => HP9.out cx ax _ _ wx hx) (yieldsIf_val (by rfl) (by intro W; go_simp)) s2 ?_
  simp only [List.setIfInBounds_toArray, List.set_cons_zero, List.set_cons_succ]
  refine hTakeS (i := 6) (k := 5) (v := .pointer (some ⟨k, 0, none⟩)) rfl rfl (by kernel_rfl) (by kernel_rfl) (by kernel_rfl) (fun cx ax wx hx => HP9.out cx ax _ _ wx hx) (yieldsIf_val (by rfl) (by intro W; go_simp)) s2 ?_
  simp only [List.setIfInBounds_toArray, List.set_cons_zero, List.set_cons_succ]
  refine hTakeS (i := 7) (k := 6) (v := .int .i64 0) rfl rfl (by kernel_rfl) (by kernel_rfl) (by kernel_rfl) (fun cx ax wx hx => HP9.out cx ax _ _ wx hx) (yieldsIf_val (by rfl) (by intro W; go_simp)) s2 ?_
  simp only [List.setIfInBounds_toArray, List.set_cons_zero, List.set_cons_succ]
  refine wpAnyH_done (by kernel_rfl) ?_ _
  clear s1 s2 h0 hb1 hb2 hk1 hk2 hpo l0 l1 l2 d1 d2
  have hnil : (v2.alloc (h8 (fun _ => .slice none 0 0))) = v2.alloc (h8 (fun _ => .slice none 0 0)) := rfl
  clear hnil
  go_upto_if 36 with (fail)
  refine wp_cond_false (by go_simp) ?_
  go_step
  go_step
  go_step
  apply wp_seq_k
  intro KZ hKZ
  have HKZ := Lib.hid hKZ
  clear hKZ
  go_wp2_with fail
  refine HKZ.out _ _ ?_
  apply wp_seq_k
  intro KA hKA
  have HKA := Lib.hid hKA
  clear hKA
  go_wp2_with fail
  refine HKA.out _ _ ?_
  apply wp_seq_k
  intro K hK
  refine rn_all (OpS.start HPO.out HLT.out.1 HLT.out.2 HL3.out HT.out) HA.out (by have := HN40.out; omega) (fun cx ax kx vx wx hx => HP9.out cx ax kx vx wx hx) ?_
  intro z4 z8 z10 z11 z12 z13 z14 z15 z16 z17 z38 z39 z40 z41 z42 z43 z44 z45 z46 z47 z48 z49 z50 z51 z52 z53 z54 z55 z56 z57 z58 z59 z60 z61 z62 z63 z64 z65 z66 z67 z68 z69 z70 z71 z72 z73 z74 z75 z76 z77 z78 z79 z80 z81 z82 z83 z84 z85 z86 z87 z88 z89 z90 z91 z92 z93 z94 z95 z96 z97 z98 z99 z100 z101 z102 z103 z104 z105 z106 z107 z108 z109 z110 z111 z112 z113 z114 z115 z116 z117 z118 z119 z120 z121 z122 z123 z124 z125 z126 z127 z128 z129 z130 z131 z132 z133 z134 z135 z136 z137 z138 z139 z140 z141 z142 z143 z144 z145 z146 z147 z148 z149 z150 z151 z152 z153 z154 z155 z156 W9 hb9
  refine hK _ _ ?_
  have HB9 := Lib.hid hb9
  clear hb9 hK
  go_wp2_with fail
  refine HQ9.out _ _ _ ?_
  go_ret
  exact ⟨rfl, HB9.out⟩

theorem portOpen_holds : Rows.PortOpenSaid := portOpen_of (fun b cy sl ts v n w _ _ ht ha => by
  obtain ⟨sp, sc, rfl⟩ := ht.slice
  obtain ⟨p, cc, rfl⟩ := ha.slice
  by_cases h1 : 64 < ts.length
  · exact popen_a b cy sp _ sc ts p n cc w ht rfl h1
  by_cases h2 : 40 < n
  · exact popen_b b cy sp _ sc ts p n cc w ht rfl h1 h2
  by_cases hz : chkV b cy ts = 0
  · exact popen_d b cy sp _ sc ts p n cc w ht rfl ha h1 h2 hz
  · exact popen_c b cy sp _ sc ts p n cc w ht rfl h1 h2 hz)

end Go.Proofs.Ytllmfkodgalklaa
