/- For any domain, clock, number of ports and time, and every row of steps TreeRuns answers true: whatever is heard when, every answer is that of layer 19's reference over the law's own list. No condition. Written by gen_trrunk.py. -/
import Derived.Test.YtholemjbjmkpkaaTrRunT
import Derived.Test.YtholemjbjmkpkaaTrRunW
import Derived.Test.YtholemjbjmkpkaaFTreeRuns
namespace Go.Proofs.Ytholemjbjmkpkaa
open Go.RowKit Go.Joins Go.Deep

set_option maxRecDepth 1000000 in
set_option maxHeartbeats 16000000 in
theorem runs_right (dom : Int) (p : Pri) (n : Nat) (most : Int) (pv : Option Addr) (ln cp : Nat) (w : World) (h : newB dom p (n : Int) most = true) (hd : In64 dom) (hp : In64 p.one ∧ In64 p.cls ∧ In64 p.two ∧ In64 p.id) (ha : TArg w (.slice pv ln cp) ln) :
    Calls Try.prog 9 #[.int .i64 dom, .agg (PC p), .int .i64 (n : Int), .int .i64 most, .slice pv ln cp] w fun e w' => e = .returned (.bool true) ∧ Below w.heap.size w w' := by
  have HH := Lib.hid (fun W => head20_ret W)
  have HN := Lib.hid (fun W => new_ok dom p n most W h hd hp)
  have HE : Hid ((!newB dom p (n : Int) most) = false) := Lib.hid (by rw [h]; rfl)
  have HX : Hid ((w.alloc (.cells #[.int .i64 p.one, .int .i64 p.cls, .int .i64 p.two, .int .i64 p.id] 23)).heap[w.heap.size]? = some (.cells #[.int .i64 p.one, .int .i64 p.cls, .int .i64 p.two, .int .i64 p.id] 23)) := Lib.hid (heap_alloc_new w _)
  have HOk := Lib.hid (newT_ok h)
  have HFit := Lib.hid (newT_fit (dom := dom) (p := p) (n := n) (most := most) hd hp)
  have HSd := Lib.hid (Said.new h)
  have HA := Lib.hid ha
  have hn8 : n ≤ 8 := HOk.out.n8
  have HN8 := Lib.hid hn8
  clear h hd hp ha hn8
  unfold PC at HN ⊢
  go_enter Try.func9, Try.ntmps9
  refine wp_hideP (fun cx ax kx vx wx hx => by cases kx <;> exact hx) (fun Q9 hQ9 hP9 => ?_)
  have HQ9 := Lib.hid hQ9
  have HP9 := Lib.hid hP9
  clear hQ9 hP9
  go_upto_region 4 with (first
    | (go_at_call 21; (with_reducible refine (HH.out _).mono ?_); rintro e w1 ⟨rfl, hb⟩; have HB1 := Lib.hid (bTr (bAl (bRef w) _) hb); have HX1 := Lib.hid ((hb.block _ (lt_of_heap HX.out)).trans HX.out); clear hb)
    | ((with_reducible refine at_loadP ?_); refine wpList_loadW rfl _ _ rfl w.heap.size 0 rfl #[.int .i64 p.one, .int .i64 p.cls, .int .i64 p.two, .int .i64 p.id] _ (range_whole HX1.out) Try.underlying23 rfl (by kernel_rfl) ?_)
    | (go_at_call 22; (with_reducible refine (HN.out _).mono ?_); rintro e w2 ⟨b, g, rfl, htr, hbl, hgl, hb⟩; have HB2 := Lib.hid (bTr HB1.out hb); have HX2 := Lib.hid ((hb.block _ (lt_of_heap HX1.out)).trans HX1.out); have HTr := Lib.hid htr; have HGL : Hid (w.heap.size ≤ g) := Lib.hid (Nat.le_trans HB1.out.size hgl); clear hb htr hbl hgl; try dsimp only))
  refine rn_right HX2.out ?_
  intros
  go_upto_region 5 with fail
  refine rn_args (p := p) ?_
  intros
  rw [HE.out]
  obtain ⟨cs, hmk, hcs, hcc⟩ := make_kept n HN8.out w2
  have HKs := Lib.hid (Ks.made (w := w2) hcs hcc)
  have o0 : ∀ o, (w2.alloc o).cell? ⟨w.heap.size, 0, none⟩ = some (.int .i64 p.one) := fun o => (World.cell?_of_block (heap_alloc_old w2 o (lt_of_heap HX2.out))).trans (cell_of_row _ _ _ _ _ _ HX2.out)
  have o1 : ∀ o, (w2.alloc o).cell? ⟨w.heap.size, 1, none⟩ = some (.int .i64 p.cls) := fun o => (World.cell?_of_block (heap_alloc_old w2 o (lt_of_heap HX2.out))).trans (cell_of_row _ _ _ _ _ _ HX2.out)
  have o2 : ∀ o, (w2.alloc o).cell? ⟨w.heap.size, 2, none⟩ = some (.int .i64 p.two) := fun o => (World.cell?_of_block (heap_alloc_old w2 o (lt_of_heap HX2.out))).trans (cell_of_row _ _ _ _ _ _ HX2.out)
  have o3 : ∀ o, (w2.alloc o).cell? ⟨w.heap.size, 3, none⟩ = some (.int .i64 p.id) := fun o => (World.cell?_of_block (heap_alloc_old w2 o (lt_of_heap HX2.out))).trans (cell_of_row _ _ _ _ _ _ HX2.out)
  clear hcs hcc
  go_upto_if 156 with fail
  refine wp_cond_false (by go_simp) ?_
  go_step
  go_step
  go_step
  apply wp_seq_k
  intro KA hKA
  have HKA := Lib.hid hKA
  clear hKA
  go_wp2_with fail
  refine HKA.out _ _ ?_
  clear hmk
  apply wp_seq_k
  intro KB hKB
  have HKB := Lib.hid hKB
  clear hKB
  go_wp2_with (first
    | ((with_reducible refine at_buildR ?_); refine wpList_buildG rfl _ _ rfl #[.int .i64 p.one, .int .i64 p.cls, .int .i64 p.two, .int .i64 p.id, .int .i64 0, .int .i64 0, .int .i64 0, .int .i64 0] (by simp only [List.map_toArray, List.map_cons, List.map_nil]; kernel_rfl) ?_)
    | ((with_reducible refine at_storeR ?_); refine wpList_storeNW rfl _ _ _ rfl (w2.alloc (.cells cs 68)).heap.size rfl #[.int .i64 p.one, .int .i64 p.cls, .int .i64 p.two, .int .i64 p.id, .int .i64 0, .int .i64 0, .int .i64 0, .int .i64 0] _ _ rfl rfl (by simp [Value.oneCell']) (by kernel_rfl) rfl ?_))
  refine HKB.out _ _ ?_
  clear o0 o1 o2 o3
  have b3 := bAl (bRef w2) (.cells cs 68 (0, 0))
  have b4 := bTr b3 (bAl (bRef (w2.alloc (.cells cs 68 (0, 0)))) (.cells #[.int .i64 p.one, .int .i64 p.cls, .int .i64 p.two, .int .i64 p.id, .int .i64 0, .int .i64 0, .int .i64 0, .int .i64 0] 30 (0, 0)))
  have hst : StR w p b g w2.heap.size (w2.alloc (.cells cs 68 (0, 0))).heap.size n dom most (fun _ => Ke.fresh false 0) (newT dom p n most) ((w2.alloc (.cells cs 68 (0, 0))).alloc (.cells #[.int .i64 p.one, .int .i64 p.cls, .int .i64 p.two, .int .i64 p.id, .int .i64 0, .int .i64 0, .int .i64 0, .int .i64 0] 30 (0, 0))) :=
    ⟨⟨bTr HB2.out b4, (b4.block _ (lt_of_heap HX2.out)).trans HX2.out, heap_alloc_new _ _, HTr.out.below b4, Ks.below HKs.out (bAl (bRef _) _), fun k _ => Twin.start, HOk.out, HFit.out, rfl, fun k _ => ⟨by show (-1125899906842624 : Int) ≤ 0; omega, by show (0 : Int) ≤ 1125899906842624; omega⟩, HGL.out, HB2.out.size⟩, rfl, rfl, rfl, HSd.out⟩
  rw [show (w2.alloc (.cells cs 68 (0, 0))).heap.size = w2.heap.size + 1 by simp] at hst
  apply wp_seq_k
  intro KC hKC
  refine rn_all hst HA.out (fun cx ax kx vx wx hx => HP9.out cx ax kx vx wx hx) ?_
  intro f W9 hb9
  refine hKC _ _ ?_
  have HB9 := Lib.hid hb9
  clear hKC hb9 hst b3 b4
  go_wp2_with fail
  refine HQ9.out _ _ _ ?_
  go_ret
  exact ⟨rfl, HB9.out⟩
theorem treeRuns_holds : Rows.TreeRunsSaid := treeRuns_of (fun x0 z0 z1 z2 z3 x2 x3 v4 n4 w h0 h1_0 h1_1 h1_2 h1_3 _ _ ha => by
  cases hb : newB x0 ⟨z0, z1, z2, z3⟩ x2 x3 with
  | false => exact runs_wrong x0 ⟨z0, z1, z2, z3⟩ x2 x3 v4 w hb h0 ⟨h1_0, h1_1, h1_2, h1_3⟩
  | true =>
    obtain ⟨pv, cp, rfl⟩ := ha.slice
    have hb2 := hb
    unfold newB at hb2
    simp only [Bool.and_eq_true, decide_eq_true_eq] at hb2
    obtain ⟨n, rfl⟩ : ∃ n : Nat, x2 = (n : Int) := ⟨x2.toNat, by have := hb2.2.1.1; omega⟩
    exact runs_right x0 ⟨z0, z1, z2, z3⟩ n x3 pv n4 cp w hb h0 ⟨h1_0, h1_1, h1_2, h1_3⟩ ha)

end Go.Proofs.Ytholemjbjmkpkaa
