/- TreeRuns answers true where the arguments of New are not right. -/
import Derived.Test.YtholemjbjmkpkaaTrRunB
namespace Go.Proofs.Ytholemjbjmkpkaa
open Go.RowKit Go.Joins Go.Deep

set_option maxRecDepth 1000000 in
set_option maxHeartbeats 16000000 in
theorem runs_wrong (dom : Int) (p : Pri) (po most : Int) (v : Value) (w : World) (h : newB dom p po most = false) (hd : In64 dom) (hp : In64 p.one ∧ In64 p.cls ∧ In64 p.two ∧ In64 p.id) :
    Calls Try.prog 9 #[.int .i64 dom, .agg (PC p), .int .i64 po, .int .i64 most, v] w fun e w' => e = .returned (.bool true) ∧ Below w.heap.size w w' := by
  have HH := Lib.hid (fun W => head20_ret W)
  have HN := Lib.hid (fun W => new_no dom p po most W h hd hp)
  have HB0 := Lib.hid (fun now W => best_nil now W)
  have HO0 := Lib.hid (fun a s n W => out_nil a s n W)
  have HU0 := Lib.hid (fun a u W => up_nil a u W)
  have HR0 := Lib.hid (fun n W => root_nil n W)
  have HI0 := Lib.hid (fun W => in_nil 0 Mg.zero none 0 0 0 W)
  rw [show MC Mg.zero (.slice none 0 0) = #[.int .i64 0, .int .i64 0, .int .i64 0, .int .i64 0, .int .i64 0, .int .i64 0, .int .i64 0, .int .i64 0, .int .i64 0, .int .i64 0, .int .i64 0, .int .i64 0, .int .i64 0, .int .i64 0, .int .i64 0, .slice none 0 0] from rfl] at HI0
  have HE : Hid ((!newB dom p po most) = true) := Lib.hid (by rw [h]; rfl)
  have HX : Hid ((w.alloc (.cells #[.int .i64 p.one, .int .i64 p.cls, .int .i64 p.two, .int .i64 p.id] 23)).heap[w.heap.size]? = some (.cells #[.int .i64 p.one, .int .i64 p.cls, .int .i64 p.two, .int .i64 p.id] 23)) := Lib.hid (heap_alloc_new w _)
  clear h hd hp
  unfold PC at HN ⊢
  unfold VC nilV at HB0
  go_enter Try.func9, Try.ntmps9
  go_upto_region 4 with (first
    | (go_at_call 21; (with_reducible refine (HH.out _).mono ?_); rintro e w1 ⟨rfl, hb⟩; have HB1 := Lib.hid (bTr (bAl (bRef w) _) hb); have HX1 := Lib.hid ((hb.block _ (lt_of_heap HX.out)).trans HX.out); clear hb)
    | ((with_reducible refine at_loadP ?_); refine wpList_loadW rfl _ _ rfl w.heap.size 0 rfl #[.int .i64 p.one, .int .i64 p.cls, .int .i64 p.two, .int .i64 p.id] _ (range_whole HX1.out) Try.underlying23 rfl (by kernel_rfl) ?_)
    | (go_at_call 22; (with_reducible refine (HN.out _).mono ?_); rintro e w2 ⟨rfl, hb⟩; have HB2 := Lib.hid (bTr HB1.out hb); have HX2 := Lib.hid ((hb.block _ (lt_of_heap HX1.out)).trans HX1.out); clear hb))
  refine rn_right HX2.out ?_
  intros
  go_upto_region 5 with fail
  refine rn_args (p := p) ?_
  intros
  rw [HE.out]
  go_wp2_with (first
    | (go_at_call 23; (with_reducible refine (HB0.out _ _).mono ?_); rintro e w3 ⟨rfl, hb⟩; have HB3 := Lib.hid (bAl (bTr HB2.out hb) (.cells #[.int .i64 0, .int .i64 0, .int .i64 0, .int .i64 0, .int .i64 0, .int .i64 0, .int .i64 0, .int .i64 (-1)] 25)); have HV3 := Lib.hid (heap_alloc_new w3 (.cells #[.int .i64 0, .int .i64 0, .int .i64 0, .int .i64 0, .int .i64 0, .int .i64 0, .int .i64 0, .int .i64 (-1)] 25)); clear hb)
    | (go_at_call 24; (with_reducible refine (HO0.out _ _ _ _).mono ?_); rintro e w4 ⟨rfl, hb⟩; have HB4 := Lib.hid (bAl (bTr HB3.out hb) (.cells #[.int .i64 0, .int .i64 0, .int .i64 0, .int .i64 0, .int .i64 0, .int .i64 0, .int .i64 0, .int .i64 0, .int .i64 0, .int .i64 0, .int .i64 0, .int .i64 0, .int .i64 0, .int .i64 0, .int .i64 0, .slice none 0 0] 58)); have HV4 := Lib.hid (((bAl (bRef w4) (.cells #[.int .i64 0, .int .i64 0, .int .i64 0, .int .i64 0, .int .i64 0, .int .i64 0, .int .i64 0, .int .i64 0, .int .i64 0, .int .i64 0, .int .i64 0, .int .i64 0, .int .i64 0, .int .i64 0, .int .i64 0, .slice none 0 0] 58)).block _ (lt_of_heap ((hb.block _ (lt_of_heap HV3.out)).trans HV3.out))).trans ((hb.block _ (lt_of_heap HV3.out)).trans HV3.out)); clear hb)
    | ((with_reducible refine at_storeM ?_); refine wpList_storeNW rfl _ _ _ rfl w4.heap.size rfl #[.int .i64 0, .int .i64 0, .int .i64 0, .int .i64 0, .int .i64 0, .int .i64 0, .int .i64 0, .int .i64 0, .int .i64 0, .int .i64 0, .int .i64 0, .int .i64 0, .int .i64 0, .int .i64 0, .int .i64 0, .slice none 0 0] _ _ rfl rfl (by simp [Value.oneCell']) (by kernel_rfl) rfl ?_)
    | (go_at_call 25; (with_reducible refine (HU0.out _ _ _).mono ?_); rintro e w5 ⟨rfl, rfl⟩)
    | ((with_reducible refine at_loadV ?_); refine wpList_loadW rfl _ _ rfl w3.heap.size 0 rfl #[.int .i64 0, .int .i64 0, .int .i64 0, .int .i64 0, .int .i64 0, .int .i64 0, .int .i64 0, .int .i64 (-1)] _ (range_whole HV4.out) Try.underlying25 rfl (by kernel_rfl) ?_)
    | (go_at_call 26; (with_reducible refine (HR0.out _ _).mono ?_); rintro e w6 ⟨rfl, hb⟩; have HB6 := Lib.hid (bTr HB4.out hb); clear hb)
    | (go_at_call 27; (with_reducible refine (HI0.out _).mono ?_); rintro e w7 ⟨rfl, hb⟩; have HB7 := Lib.hid (bTr HB6.out hb); clear hb))
  go_ret
  exact ⟨rfl, HB7.out⟩

end Go.Proofs.Ytholemjbjmkpkaa
