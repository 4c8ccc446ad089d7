/- From what the law's call comes to, to the given statement: the arguments opened, and carried behind the call. -/
import Derived.Test.YtpdfgdjomlogbabSvGtArg
namespace Go.Proofs.Ytpdfgdjomlogbab
open Go.RowKit Go.WideShapes Go.ChangeShapes Go.ChangeAt Go.Joins

set_option maxRecDepth 100000 in
theorem sieveGates_lifted (hlaw : ∀ (x0_0 : Int) (x0_1 : Int) (x0_2 : Nat) (x0_3 : Nat) (x0_4 : Nat) (x0_5 : Nat) (x0_6 : Nat) (x0_7 : Nat) (x0_8 : Bool) (x0_9 : Int) (x0_10 : Int) (x0_11 : Int) (x0_12 : Bool) (x0_13 : Int) (b1 c1 : Int) (sl1 : Value) (ts1 : List (Int × Int)) (v2 : Value) (xs2 : List Int) (w : World), In64 x0_0 → In64 x0_1 → x0_2 < 256 → x0_3 < 256 → x0_4 < 256 → x0_5 < 256 → x0_6 < 256 → x0_7 < 256 → In64 x0_9 → In64 x0_10 → In64 x0_11 → In64 x0_13 → In64 b1 → In64 c1 → TArg w sl1 ts1 → LArg w v2 xs2 → Calls Try.prog 6 #[.agg #[.int .i64 x0_0, .int .i64 x0_1, .int .u8 (x0_2 : Int), .int .u8 (x0_3 : Int), .int .u8 (x0_4 : Int), .int .u8 (x0_5 : Int), .int .u8 (x0_6 : Int), .int .u8 (x0_7 : Int), .bool x0_8, .int .i64 x0_9, .int .i64 x0_10, .int .i64 x0_11, .bool x0_12, .int .i64 x0_13], .agg #[.int .i64 b1, .int .i64 c1, sl1], v2] w fun e w' => e = .returned (.bool true) ∧ Below w.heap.size w w')
    (os : Os) (started : os.Started) (H : Type) (enc : TypeId × Value → H) :
    ReturnsInHanded {} Try.checked os 6 .any (Rows.sieveGatesSpec.pre6 enc Try.prog Try.f6 Rows.sieveGatesRow.domain false) (Rows.sieveGatesSpec.post enc Try.prog Try.f6 false true false false) := by
  refine returnsInHanded_of_change (C := Try.checked) Try.own started (by kernel_rfl) Try.func6
    (ChangeSpec.witness6 (enc := enc) (C := Try.checked) false ⟨#[], #[.agg #[.int .i64 0, .int .i64 0, .int .u8 0, .int .u8 0, .int .u8 0, .int .u8 0, .int .u8 0, .int .u8 0, .bool false, .int .i64 0, .int .i64 0, .int .i64 0, .bool false, .int .i64 0], .agg #[.int .i64 0, .int .i64 0, .slice none 0 0], .slice none 0 0], []⟩ 8 (by kernel_rfl) (by kernel_rfl) (by kernel_rfl) (by kernel_rfl)) ?_
  intro W base args ds gs before hval0 hW _ _
  have hval : ∀ (j : Nat) t v, Try.f6.params[j]? = some t → args[j]? = some v → Value.okWide Try.prog W .any base t v := hval0
  have hW' := hW
  obtain ⟨p, q, hA0, hV, rfl, _, _⟩ := hW
  have hA : DataW.TrodAll enc Try.prog W 0 (fun _ => true) true Try.f6.params.toList args.toList ds p := hA0
  rw [Try.params6] at hA hval
  obtain ⟨v0, v1, v2, d0, d1, d2, p0, p1, p2, rfl, rfl, rfl, h0, h1, h2⟩ := trodAll_three hA
  obtain ⟨rfl, rfl⟩ := trodVars_none hV
  obtain ⟨x0_0, x0_1, x0_2, x0_3, x0_4, x0_5, x0_6, x0_7, x0_8, x0_9, x0_10, x0_11, x0_12, x0_13, rfl, e0_0, e0_1, e0_2, e0_3, e0_4, e0_5, e0_6, e0_7, e0_9, e0_10, e0_11, e0_13⟩ := open_sieveStream (hval 0 28 v0 rfl rfl) h0
  obtain ⟨b1, c1, sl1, ts1, rfl, e1, g1, t1⟩ := open_list (hval 1 46 v1 rfl rfl) h1
  obtain ⟨a2, len2, cap2, rfl⟩ := okWide_slice Try.underlying47 (hval 2 47 v2 rfl rfl)
  obtain ⟨xs2, hx2⟩ := open_longs h2
  clear hA0 hval0
  simp only [List.append_nil, List.nil_append] at hW'
  have hlt0 : ∀ x ∈ p0, x.block < W.heap.size := fun x hx => by simpa using hW'.lt x (by simp [hx])
  have hlt1 : ∀ x ∈ p1, x.block < W.heap.size := fun x hx => by simpa using hW'.lt x (by simp [hx])
  have hlt2 : ∀ x ∈ p2, x.block < W.heap.size := fun x hx => by simpa using hW'.lt x (by simp [hx])
  refine (hlaw x0_0 x0_1 x0_2 x0_3 x0_4 x0_5 x0_6 x0_7 x0_8 x0_9 x0_10 x0_11 x0_12 x0_13 b1 c1 sl1 ts1 _ xs2 W e0_0 e0_1 e0_2 e0_3 e0_4 e0_5 e0_6 e0_7 e0_9 e0_10 e0_11 e0_13 e1 g1 t1 hx2).mono fun e W' ⟨he, hw⟩ => ?_
  subst he
  exact ⟨_, rfl, _, _, _, [], _, [], hW', trodAll_mk1 (shut_bool Try.underlying4 true), trodAll_mk3 (Below.trod Try.laidOut (by kernel_rfl) (of_decide_eq_true (by kernel_rfl)) h0 hw hlt0) (Below.trod Try.laidOut (by kernel_rfl) (of_decide_eq_true (by kernel_rfl)) h1 hw hlt1) (Below.trod Try.laidOut (by kernel_rfl) (of_decide_eq_true (by kernel_rfl)) h2 hw hlt2), rfl, hw.frame _, fun h => by cases h⟩

theorem sieveGates_of (hlaw : ∀ (x0_0 : Int) (x0_1 : Int) (x0_2 : Nat) (x0_3 : Nat) (x0_4 : Nat) (x0_5 : Nat) (x0_6 : Nat) (x0_7 : Nat) (x0_8 : Bool) (x0_9 : Int) (x0_10 : Int) (x0_11 : Int) (x0_12 : Bool) (x0_13 : Int) (b1 c1 : Int) (sl1 : Value) (ts1 : List (Int × Int)) (v2 : Value) (xs2 : List Int) (w : World), In64 x0_0 → In64 x0_1 → x0_2 < 256 → x0_3 < 256 → x0_4 < 256 → x0_5 < 256 → x0_6 < 256 → x0_7 < 256 → In64 x0_9 → In64 x0_10 → In64 x0_11 → In64 x0_13 → In64 b1 → In64 c1 → TArg w sl1 ts1 → LArg w v2 xs2 → Calls Try.prog 6 #[.agg #[.int .i64 x0_0, .int .i64 x0_1, .int .u8 (x0_2 : Int), .int .u8 (x0_3 : Int), .int .u8 (x0_4 : Int), .int .u8 (x0_5 : Int), .int .u8 (x0_6 : Int), .int .u8 (x0_7 : Int), .bool x0_8, .int .i64 x0_9, .int .i64 x0_10, .int .i64 x0_11, .bool x0_12, .int .i64 x0_13], .agg #[.int .i64 b1, .int .i64 c1, sl1], v2] w fun e w' => e = .returned (.bool true) ∧ Below w.heap.size w w') : Rows.SieveGatesSaid :=
  OpenClaim.holds_of_wide 6 Try.f6 rfl rfl rfl rfl rfl rfl rfl ⟨rfl, rfl, rfl, rfl, rfl⟩ rfl rfl rfl rfl rfl (by kernel_rfl) Try.func6 (by kernel_rfl)
    (of_decide_eq_true (by kernel_rfl)) (by unfold Func.isWrapper; rw [if_neg (of_decide_eq_false (by kernel_rfl))]; exact ⟨rfl, rfl⟩)
    (fun os started H enc _ => sieveGates_lifted hlaw os started H enc)

end Go.Proofs.Ytpdfgdjomlogbab
