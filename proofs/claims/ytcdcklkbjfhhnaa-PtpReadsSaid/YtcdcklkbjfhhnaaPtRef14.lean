/- The reference's Decode. Written by gen_ptref11.py. -/
import Derived.Test.YtcdcklkbjfhhnaaPtRef13
namespace Go.Proofs.Ytcdcklkbjfhhnaa
open Go.RowKit Go.Joins Go.Deep

theorem wpList_storeNS {ops : Array Oper} {rest : List Oper} {o : Oper} {a : Act} {w : World} {Q : Exit → Act → World → Prop} (hgd : o.guard = none) (x y : Operand) (ho : o.op = .store 38 x y) (g : Nat) (hg : g = w.heap.size)
    (cells old : Array Value) (hx : a.eval x = .pointer (some ⟨g, 0, none⟩)) (hy : a.eval y = .agg cells) (h1 : cells.all (·.oneCell') = true) (hs : cells.size = 16) (hold : old.size = 16)
    (h : wpList Try.prog ops Q rest (a.put o.dst undef) (w.alloc (.cells cells 38))) : wpList Try.prog ops Q (o :: rest) a (w.alloc (.cells old 38)) := by
  subst hg
  exact wpList_storeS hgd x y ho w.heap.size cells hx hy h1 hs old (heap_alloc_new w _) hold (by rw [setRow_newM]; exact h)
set_option maxRecDepth 1000000 in
set_option maxHeartbeats 16000000 in
theorem rd_r11 {W : World} {a0 a1 a2 a3 a4 a5 a6 a7 a8 a9 a10 a11 a12 a13 a14 a15 a16 a17 a18 a19 a20 a21 a22 a23 a24 a25 a26 a27 a28 a29 a30 a31 a32 a33 a34 a35 a36 a37 a38 a39 a40 a41 a42 a43 a44 a45 a46 a47 a48 a49 a50 a51 a52 a53 a54 a55 a56 a57 a58 a59 a60 a61 a62 a63 a64 a65 a66 a67 a68 a69 a70 a71 a72 a73 a74 a75 a76 a77 a78 a79 a80 a81 a82 a83 a84 a85 a86 a87 a88 a89 a90 a91 a92 a93 a94 a95 a96 a97 a98 a99 a100 a101 a102 a103 a104 a105 a106 a107 a108 a109 a110 a111 a112 a113 a114 a115 a116 a117 a118 a119 a120 a121 a122 a123 a124 a125 a126 a127 a128 a129 a130 a131 a132 a133 a134 a135 a136 : Value} {Q0 : Exit → Act → World → Prop}
    (hQ : ∀ (W' : World), W' = W → Q0 .normal ⟨#[a0, a1, a2, a3, a4, a5, a6, a7, .bool false, a9, a10, a11, a12, a13, a14, a15, a16, a17, a18, a19, a20, a21, a22, a23, a24, a25, a26, a27, a28, a29, a30, a31, a32, a33, a34, a35, a36, a37, a38, a39, a40, a41, a42, a43, a44, a45, a46, a47, a48, a49, a50, a51, a52, a53, a54, a55, a56, a57, a58, a59, a60, a61, a62, a63, a64, a65, a66, a67, a68, a69, a70, a71, a72, a73, a74, a75, a76, a77, a78, a79, a80, a81, a82, a83, a84, a85, a86, a87, a88, a89, a90, a91, a92, a93, a94, a95, a96, a97, a98, a99, a100, a101, a102, a103, a104, a105, a106, a107, a108, a109, a110, a111, a112, a113, a114, a115, a116, a117, a118, a119, a120, a121, a122, a123, a124, a125, a126, a127, a128, a129, a130, a131, a132, a133, a134, a135, a136], []⟩ W') :
    Code.wp Try.prog (partOf 11 1) Q0 ⟨#[a0, a1, a2, a3, a4, a5, a6, a7, a8, a9, a10, a11, a12, a13, a14, a15, a16, a17, a18, a19, a20, a21, a22, a23, a24, a25, a26, a27, a28, a29, a30, a31, a32, a33, a34, a35, a36, a37, a38, a39, a40, a41, a42, a43, a44, a45, a46, a47, a48, a49, a50, a51, a52, a53, a54, a55, a56, a57, a58, a59, a60, a61, a62, a63, a64, a65, a66, a67, a68, a69, a70, a71, a72, a73, a74, a75, a76, a77, a78, a79, a80, a81, a82, a83, a84, a85, a86, a87, a88, a89, a90, a91, a92, a93, a94, a95, a96, a97, a98, a99, a100, a101, a102, a103, a104, a105, a106, a107, a108, a109, a110, a111, a112, a113, a114, a115, a116, a117, a118, a119, a120, a121, a122, a123, a124, a125, a126, a127, a128, a129, a130, a131, a132, a133, a134, a135, a136], []⟩ W := by
  replace hQ := Lib.hid hQ
  conv => arg 2; whnf
  go_wp2_with fail
  exact hQ.out  W rfl
theorem pairs_ok1 (k : Int) : ∀ j, j < (pairsOf k).length → ((pairsOf k).getD j (0, 0)).1 < 15 ∧ ((pairsOf k).getD j (0, 0)).2 ≤ 8 ∧ 1 ≤ ((pairsOf k).getD j (0, 0)).2 := by
  unfold pairsOf
  split
  · decide
  split
  · decide
  split
  · decide
  · decide
theorem nval1 {xs : List Nat} (h : 1 ≤ xs.length) : nval xs s0 1 = ((xs.getD 0 0 : Nat) : Int) ∨ 256 ≤ xs.getD 0 0 := by
  have e : nval xs s0 1 = w64 (unum ((xs.drop 0).take 1)) := by
    have q : ¬ xs.length < 0 + 1 := by omega
    unfold nval s0
    simp only [Bool.false_or, decide_eq_true_eq]
    rw [if_neg q]
  rw [one_at (by omega)] at e
  by_cases g : xs.getD 0 0 < 256
  · exact .inl (e.trans (w64_low (by omega)))
  · exact .inr (by omega)
theorem go6_len (xs : List Nat) : ∀ (P : List (Nat × Nat)) (k : Nat) (N : List Int), (go6 xs P k N).1.length = N.length
  | [], _, _ => rfl
  | q :: r, k, N => by
    unfold go6
    split
    · rfl
    · rw [go6_len xs r]; simp
theorem go6_head (xs : List Nat) : ∀ (P : List (Nat × Nat)) (k : Nat) (N : List Int), (∀ q ∈ P, q.1 ≠ 0) → (go6 xs P k N).1.getD 0 0 = N.getD 0 0
  | [], _, _, _ => rfl
  | q :: r, k, N, h => by
    unfold go6
    split
    · rfl
    · rw [go6_head xs r _ _ (fun q hq => h q (List.mem_cons_of_mem _ hq))]
      have := h q (by simp)
      simp [List.getD_eq_getElem?_getD, this]
theorem pairs_pos (k : Int) : ∀ q ∈ pairsOf k, q.1 ≠ 0 := by
  unfold pairsOf
  split
  · decide
  split
  · decide
  split
  · decide
  · decide
set_option maxRecDepth 1000000 in
set_option maxHeartbeats 16000000 in
/-- The reference's Decode where a kind is read. -/
theorem rdec_kind (b o c : Nat) (xs : List Nat) (w : World) (k : Int) (hx : Crc.Bytes xs) (hr : Rd w b o xs) (hl : xs.length < 140737488355328) (hc : xs.length ≤ c) (h20 : 20 ≤ xs.length) (hk : k = 0 ∨ k = 2 ∨ k = 3 ∨ k = 8 ∨ k = 10 ∨ k = 11) (h0 : ((xs.getD 0 0 : Nat) : Int) = k + 16) :
    Calls Try.prog 17 #[.slice (some ⟨b, o, none⟩) xs.length c] w (DecR w (rest6 xs k (go6 xs (pairsOf k) 1 (start6 k))).2 ((rest6 xs k (go6 xs (pairsOf k) 1 (start6 k))).1 : Int)) := by
  obtain ⟨X, hX⟩ : ∃ X, X = rest6 xs k (go6 xs (pairsOf k) 1 (start6 k)) := ⟨_, rfl⟩
  obtain ⟨R, hR⟩ : ∃ R, R = go6 xs (pairsOf k) 1 (start6 k) := ⟨_, rfl⟩
  rw [← hX]
  rw [← hR] at hX
  have HXX := Lib.hid hX
  have HRR := Lib.hid hR
  have hd1 : decide ((xs.length : Int) < 20) = false := decide_eq_false (by omega)
  have y0 : 16 ≤ ((xs.getD 0 0 : Nat) : Int) ∧ ((xs.getD 0 0 : Nat) : Int) ≤ 27 := by omega
  obtain ⟨y, hy⟩ : ∃ y : Int, y = ((xs.getD 0 0 : Nat) : Int) := ⟨_, rfl⟩
  rw [← hy] at y0 h0
  have hcell : w.cell? ⟨b, o, none⟩ = some (.int .u8 y) := by rw [hy]; exact (hr (by omega)).2 0 (by omega)
  have hk1 := fun ob => (Below.cell (bAl (bRef w) ob) (cell_ltS hcell)).trans hcell
  have hk2 := fun ob ob2 => (Below.cell (bAl (bAl (bRef w) ob) ob2) (cell_ltS hcell)).trans hcell
  have i0 : (0 : Int) < (xs.length : Int) := by omega
  have d1 : decide (y < 16) = false := decide_eq_false (by omega)
  have d2 : decide (31 < y) = false := decide_eq_false (by omega)
  have ey0 : wrap64 y = y := by unfold wrap64; omega
  have ey1 : IntKind.i64.wrap y = y := by rw [IntKind.wrap_i64]; omega
  have ey : wrap64 (y - 16) = k := by unfold wrap64; omega
  have ey2 : IntKind.i64.wrap (y - 16) = k := by rw [IntKind.wrap_i64]; omega
  have HFD := Lib.hid (fun W => fields_any k hk W)
  have HRD := Lib.hid hr
  have HBY := Lib.hid hx
  have HLL := Lib.hid (And.intro hl hc)
  have H20 := Lib.hid h20
  have HKK := Lib.hid hk
  have HH0 := Lib.hid h0
  have HHY := Lib.hid hy
  clear hX hR hr hx hl hc h20 hk h0 y0 hy
  go_enter Try.func17, Try.ntmps17
  go_upto_region 7 with (first
    | ((with_reducible refine at_buildR ?_); refine wpList_buildR rfl rfl ?_)
    | ((with_reducible refine at_storeS ?_); refine wpList_storeNS (w := w.alloc _) rfl _ _ rfl (w.heap.size + 1) (by simp) ZC _ rfl rfl (MC_one Mg.zero none 0 0) rfl rfl ?_))
  change Code.wp _ _ _ _ ((w.alloc (.cells ZC 38 (0, 0))).alloc (.cells (ZC.setIfInBounds 0 (.int .i64 k)) 38 (0, 0)))
  have hs0 : (w.alloc (.cells ZC 38 (0, 0))).heap.size = w.heap.size + 1 := by simp
  have hbx : BoxS ((w.alloc (.cells ZC 38 (0, 0))).alloc (.cells (ZC.setIfInBounds 0 (.int .i64 k)) 38 (0, 0))) (w.heap.size + 1) (ofN (start6 k) []) (.slice none 0 0) := by
    have := heap_alloc_new (w.alloc (.cells ZC 38 (0, 0))) (.cells (ZC.setIfInBounds 0 (.int .i64 k)) 38 (0, 0))
    rw [hs0] at this
    exact this
  have hD0 : DR w (w.heap.size + 1) (start6 k) [] (.slice none 0 0) ((w.alloc (.cells ZC 38 (0, 0))).alloc (.cells (ZC.setIfInBounds 0 (.int .i64 k)) 38 (0, 0))) :=
    ⟨hbx, by simp [start6], ((bAl (bRef (w.alloc (.cells ZC 38 (0, 0)))) _).block _ (by simp)).trans (heap_alloc_new w _), bAl (bAl (bRef w) _) _, by omega⟩
  have HD0 := Lib.hid hD0
  have hzz : ((w.alloc (.cells ZC 38 (0, 0))).alloc (.cells (ZC.setIfInBounds 0 (.int .i64 k)) 38 (0, 0))).cell? ⟨w.heap.size + 1, 0, none⟩ = some (.int .i64 k) := cell_of_row _ _ _ _ _ _ hbx
  clear hs0 hbx hD0 hk1 hk2 hcell
  generalize ((w.alloc (.cells ZC 38 (0, 0))).alloc (.cells (ZC.setIfInBounds 0 (.int .i64 k)) 38 (0, 0))) = w1 at *
  generalize hg : w.heap.size + 1 = g at *
  go_upto_region 11 with (go_at_call 20; (with_reducible refine (HFD.out _).mono ?_); rintro e w2 ⟨g1, cc, rfl, hp, hb⟩; have HP := Lib.hid hp; have HD := Lib.hid (HD0.out.below hb); clear hp hb; try dsimp only)
  refine rd_r11 ?_
  intro W' hW'
  subst hW'
  rename_i hK0
  refine hK0 _ _ ?_
  apply wp_seq_k
  intro K hK
  have HK := Lib.hid hK
  clear hK hK0 hzz
  have hne : g1 ≠ g := fun e => by
    obtain ⟨cs, fr, hg1, _⟩ := HP.out
    have h2 := HD.out.box
    rw [e] at hg1
    unfold BoxS at h2
    rw [hg1] at h2
    injection h2 with h2
    injection h2 with _ h3 _
    exact absurd h3 (by decide)
  refine rd_loop (R := R) HD.out HP.out hne HBY.out HRD.out HLL.out.1 HLL.out.2 (by have := H20.out; omega) (pairs_small k).1 (pairs_ok1 k) HRR.out (fun _ _ kx _ _ h => by cases kx <;> exact h) ?_
  intro z10 z46 z47 z48 z49 z50 z51 z52 z53 z54 z55 z56 z57 z58 z59 z60 z61 z62 z63 z64 z65 z66 z67 z68 z69 z70 z71 z72 z73 z74 z75 w3 hD3 hk3
  have hhead : R.1.getD 0 0 = k := by
    rw [HRR.out, go6_head xs _ _ _ (pairs_pos k)]
    simp [start6]
  have hc0 := hD3.box.num 0 (by omega)
  rw [nums_ofN hD3.len, hhead] at hc0
  refine HK.out _ _ ?_
  obtain ⟨N, at_, sh⟩ := R
  dsimp only at hD3 hk3 hc0 ⊢
  have HD3 := Lib.hid hD3
  have HK3 := Lib.hid hk3
  clear hD3 hk3 hhead hne HK HP HD HD0
  have hXX := HXX.out
  unfold rest6 at hXX
  dsimp only at hXX
  cases sh with
  | true =>
    rw [if_pos rfl] at hXX
    have HX2 := Lib.hid hXX
    clear hXX HXX HRR
    by_cases h11 : k = 11
    · subst h11
      go_wp2_with (first
        | ((with_reducible refine at_buildR ?_); refine wpList_buildR rfl rfl ?_)
        | ((with_reducible refine at_storeS ?_); refine wpList_storeS rfl _ _ rfl w.heap.size ZC rfl rfl (MC_one Mg.zero none 0 0) rfl _ HD3.out.zero rfl ?_))
      refine bodyS2 rfl w.heap.size ZC _ rfl rfl (setRow_heap _ _ _ _ _ _ HD3.out.zero) rfl rfl ?_
      have e := HX2.out
      subst e
      exact ⟨none, 0, 0, rfl, bRowS HD3.out.bel, zero_arg _⟩
    · have q11 : (k == 11) = false := by simp [h11]
      have q12 : decide (k = 11) = false := by simp [h11]
      go_wp2_with (first
        | ((with_reducible refine at_buildR ?_); refine wpList_buildR rfl rfl ?_)
        | ((with_reducible refine at_storeS ?_); refine wpList_storeS rfl _ _ rfl w.heap.size ZC rfl rfl (MC_one Mg.zero none 0 0) rfl _ HD3.out.zero rfl ?_))
      refine bodyS2 rfl w.heap.size ZC _ rfl rfl (setRow_heap _ _ _ _ _ _ HD3.out.zero) rfl rfl ?_
      have e := HX2.out
      subst e
      exact ⟨none, 0, 0, rfl, bRowS HD3.out.bel, zero_arg _⟩
  | false =>
    rw [if_neg (by simp)] at hXX
    apply wp_seq_k
    intro K hK
    have HK := Lib.hid hK
    clear hK
    by_cases h11 : k = 11
    · subst h11
      rw [if_pos rfl] at hXX
      unfold path6 at hXX
      have h20 := H20.out
      have hll := HLL.out
      have hk3 := HK3.out
      clear HXX HRR
      by_cases g1 : xs.length ≤ at_
      · have dg : decide ((xs.length : Int) ≤ (at_ : Int)) = true := decide_eq_true (by omega)
        rw [if_pos g1] at hXX
        have HX2 := Lib.hid hXX
        clear hXX
        go_wp2_with (first
          | ((with_reducible refine at_buildR ?_); refine wpList_buildR rfl rfl ?_)
          | ((with_reducible refine at_storeS ?_); refine wpList_storeS rfl _ _ rfl w.heap.size ZC rfl rfl (MC_one Mg.zero none 0 0) rfl _ HD3.out.zero rfl ?_))
        refine bodyS2 rfl w.heap.size ZC _ rfl rfl (setRow_heap _ _ _ _ _ _ HD3.out.zero) rfl rfl ?_
        have e := HX2.out
        subst e
        exact ⟨none, 0, 0, rfl, bRowS HD3.out.bel, zero_arg _⟩
      rw [if_neg g1] at hXX
      have dg : decide ((xs.length : Int) ≤ (at_ : Int)) = false := decide_eq_false (by omega)
      have hcC := cellC HRD.out HD3.out.bel (Nat.lt_of_not_le g1)
      have hC8 := Crc.getD_byte HBY.out at_
      obtain ⟨C, hC⟩ : ∃ C, C = xs.getD at_ 0 := ⟨_, rfl⟩
      rw [← hC] at hXX hcC hC8
      have HCC := Lib.hid hC
      clear hC
      have ia : (0 : Int) ≤ (at_ : Int) ∧ (at_ : Int) < (xs.length : Int) := by omega
      have HPF := Lib.hid (path_facts (at_ := at_) (C := C) (by omega) (by omega))
      by_cases g2 : 32 < C
      · have d32 : decide ((32 : Int) < (C : Int)) = true := decide_eq_true (by omega)
        rw [if_pos g2] at hXX
        have HX2 := Lib.hid hXX
        clear hXX
        obtain ⟨eC, eC2, ea, ea2, e6, e62, e7, e72⟩ := HPF.out
        go_wp2_with (first
          | ((with_reducible refine at_buildR ?_); refine wpList_buildR rfl rfl ?_)
          | ((with_reducible refine at_storeS ?_); refine wpList_storeS rfl _ _ rfl w.heap.size ZC rfl rfl (MC_one Mg.zero none 0 0) rfl _ HD3.out.zero rfl ?_))
        refine bodyS2 rfl w.heap.size ZC _ rfl rfl (setRow_heap _ _ _ _ _ _ HD3.out.zero) rfl rfl ?_
        have e := HX2.out
        subst e
        exact ⟨none, 0, 0, rfl, bRowS HD3.out.bel, zero_arg _⟩
      rw [if_neg g2] at hXX
      have d32 : decide ((32 : Int) < (C : Int)) = false := decide_eq_false (by omega)
      by_cases g3 : xs.length < at_ + 1 + 6 * C
      · have d7 : decide ((xs.length : Int) < (at_ : Int) + 1 + 6 * (C : Int)) = true := decide_eq_true (by omega)
        rw [if_pos g3] at hXX
        have HX2 := Lib.hid hXX
        clear hXX
        obtain ⟨eC, eC2, ea, ea2, e6, e62, e7, e72⟩ := HPF.out
        go_wp2_with (first
          | ((with_reducible refine at_buildR ?_); refine wpList_buildR rfl rfl ?_)
          | ((with_reducible refine at_storeS ?_); refine wpList_storeS rfl _ _ rfl w.heap.size ZC rfl rfl (MC_one Mg.zero none 0 0) rfl _ HD3.out.zero rfl ?_))
        refine bodyS2 rfl w.heap.size ZC _ rfl rfl (setRow_heap _ _ _ _ _ _ HD3.out.zero) rfl rfl ?_
        have e := HX2.out
        subst e
        exact ⟨none, 0, 0, rfl, bRowS HD3.out.bel, zero_arg _⟩
      rw [if_neg g3] at hXX
      have d7 : decide ((xs.length : Int) < (at_ : Int) + 1 + 6 * (C : Int)) = false := decide_eq_false (by omega)
      have HX2 := Lib.hid hXX
      clear hXX
      obtain ⟨eC, eC2, ea, ea2, e6, e62, e7, e72⟩ := HPF.out
      go_wp2_with fail
      clear eC eC2 ea ea2 e6 e62 e7 e72 HPF
      obtain ⟨k0, hk0⟩ : ∃ k0, at_ + 1 = k0 := ⟨_, rfl⟩
      have H0 : Hid (PRelR w g xs N k0 C (.int .i64 ((at_ : Int) + 1)) (.int .i64 0) w3) := Lib.hid ⟨0, none, 0, 0, Nat.zero_le _, rfl, by rw [← hk0]; go_num, HD3.out, OwnI.nil HD3.out.bel.size⟩
      rw [hk0] at HX2
      have HKC : Hid (k0 + 6 * C ≤ xs.length ∧ C ≤ 32) := Lib.hid (by omega)
      clear hk0 hcC hc0 ia d32 d7 dg g1 g2 g3 hC8 hk3 HD3
      go_loopw [7, 12] (fun kv iv wr => PRelR w g xs N k0 C kv iv wr) (fun _ iv _ => C - (intOf iv).toNat)
      case atStart => exact H0.out
      case round =>
        obtain ⟨i, pv, nv, cv, hi, rfl, rfl, hD, hO⟩ := hrel
        have HD := Lib.hid hD
        have HO := Lib.hid hO
        clear hD hO H0
        have hkc := HKC.out
        rcases Nat.lt_or_ge i C with gi | gi
        · have hd : decide ((i : Int) < (C : Int)) = true := decide_eq_true (by omega)
          obtain ⟨k, hk⟩ : ∃ k, k0 + 6 * i = k := ⟨_, rfl⟩
          rw [hk]
          have HW6 := Lib.hid (six_facts (k := k) (i := i) (by omega) (by omega))
          have hck : ¬ c = k := by omega
          have etn : ((k : Int) + 6).toNat - k = 6 := by omega
          have s1 : (0 : Int) ≤ (k : Int) ∧ (k : Int) ≤ (k : Int) + 6 ∧ (k : Int) + 6 ≤ (c : Int) := by omega
          have kp := HD.out.box.path
          have fp := frozen_of_row wr g 15 _ _ HD.out.box
          have HUI := Lib.hid (six_in HBY.out k)
          have HPS : Hid (pathR xs k0 (i + 1) = pathR xs k0 i ++ [w64 (unum ((xs.drop k).take 6))]) := Lib.hid (by rw [pathR_snoc, hk])
          have HNM := Lib.hid (fun V (hV : Below w.heap.size w V) c' n' (e : n' = 6) => (number_ret b (o + k) c' n' ((xs.drop k).take 6) V (by omega) (Lib.hid (by rw [List.length_take, List.length_drop]; omega)) (Lib.hid (Crc.bytes_take (Crc.bytes_drop HBY.out k) 6)) (Lib.hid (fun jj hj => by rw [sub_getD (by omega), Nat.add_assoc]; exact ((HRD.out.below hV) (by omega)).2 (k + jj) (by omega)))).mono (fun e w' (hh : _ ∧ V = w') => (show e = _ ∧ Below V.heap.size V w' from ⟨hh.1, by rw [← hh.2]; exact bRef V⟩)))
          obtain ⟨u, hu⟩ : ∃ u, u = w64 (unum ((xs.drop k).take 6)) := ⟨_, rfl⟩
          rw [← hu] at HPS HUI
          simp only [← hu] at HNM
          have HLI : Hid ((pathR xs k0 i).length ≤ 1000) := Lib.hid (by rw [pathR_len]; omega)
          have HKE : Hid (k0 + 6 * (i + 1) = k + 6) := Lib.hid (by omega)
          clear hu hk
          obtain ⟨ew, ew2, ei, ei2⟩ := HW6.out
          go_wp2_with fail
          go_region_law (first
            | (refine step_appI rfl _ _ rfl w.heap.size _ (.slice pv nv cv) wn.heap.size (pathR xs k0 i) u rfl rfl (HO2.out.below (bAl (bRef wn) _)) ⟨_, heap_alloc_new wn _⟩ HUI.out HLI.out ?_; intro v' w' hown hoth hbel; obtain ⟨p2, n2, c2, rfl⟩ := hown.form; have HR2 := Lib.hid ((HD2.out.below (bAl (bRef wn) _)).oth hoth hbel); have HO3 := Lib.hid hown; have kq := HR2.out.box.path; have fq := frozen_of_row w' g 15 _ _ HR2.out.box; clear hown hoth hbel)
            | (go_simp; go_at_call 27; (with_reducible refine (HNM.out _ (by first | exact HD.out.bel | exact bDr1 HD.out.bel) _ _ rfl).mono ?_); rintro e wn ⟨rfl, hb⟩; have HD2 : Hid (DR w g N (pathR xs k0 i) (.slice pv nv cv) wn) := Lib.hid (by first | exact HD.out.below (bTr (bDr1 (bRef wr)) hb) | exact HD.out.below hb); have HO2 : Hid (OwnI w.heap.size wn (.slice pv nv cv) (pathR xs k0 i)) := Lib.hid (by first | exact HO.out.below (bTr (bDr1 (bRef wr)) hb) | exact HO.out.below hb); have kn := HD2.out.box.path; have fn := frozen_of_row wn g 15 _ _ HD2.out.box; have kn2 := fun ob => (HD2.out.below (bAl (bRef wn) ob)).box.path; clear hb))
          all_goals
            go_wp2_with fail
            go_roundw
            case rel => exact ⟨i + 1, p2, n2, c2, gi, by go_num, by rw [HKE.out]; go_num, HR2.out.path, by rw [HPS.out]; exact HO3.out.put HR2.out.box (by decide)⟩
            case measure => (clear ew ew2 ei ei2; simp [intOf]; omega)
        · obtain rfl : i = C := by omega
          have hd : decide ((i : Int) < (i : Int)) = false := decide_eq_false (by omega)
          go_wp2_with fail
          refine HK.out _ _ ?_
          apply wp_seq_k
          intro K2 hK2
          have HK2 := Lib.hid hK2
          clear hK2 HK
          go_wp2_with fail
          refine HK2.out _ _ ?_
          refine rd_fin (X := X) HD.out HO.out HX2.out ?_
          intro z127 z128 z129 z130 z131 z132 z133 z134 z135 z136 v' w4 hs4 hz4 hl4 hb4
          obtain ⟨pv, nv, cv, rfl⟩ := hs4
          refine bodyS2 rfl w.heap.size (MC X.2 (.slice pv nv cv)) _ rfl rfl hz4 rfl rfl ?_
          exact ⟨pv, nv, cv, rfl, hb4, hl4⟩
    · rw [if_neg h11] at hXX
      have HX2 := Lib.hid hXX
      clear hXX HXX HRR
      have q11 : (k == 11) = false := by simp [h11]
      have q12 : decide (k = 11) = false := by simp [h11]
      go_wp2_with fail
      refine HK.out _ _ ?_
      apply wp_seq_k
      intro K2 hK2
      have HK2 := Lib.hid hK2
      clear hK2 HK
      go_wp2_with fail
      refine HK2.out _ _ ?_
      refine rd_fin (X := X) HD3.out (OwnI.nil HD3.out.bel.size) HX2.out ?_
      intro z127 z128 z129 z130 z131 z132 z133 z134 z135 z136 v' w4 hs4 hz4 hl4 hb4
      obtain ⟨pv, nv, cv, rfl⟩ := hs4
      refine bodyS2 rfl w.heap.size (MC X.2 (.slice pv nv cv)) _ rfl rfl hz4 rfl rfl ?_
      exact ⟨pv, nv, cv, rfl, hb4, hl4⟩

end Go.Proofs.Ytcdcklkbjfhhnaa
