/- From what the law's call comes to, to the given statement: the arguments opened, and carried behind the call. -/
import Derived.Test.YtpdfgdjomlogbabS5ArgS
namespace Go.Proofs.Ytpdfgdjomlogbab
open Go.RowKit Go.WideShapes Go.ChangeShapes Go.ChangeAt Go.Joins

set_option maxRecDepth 100000 in
theorem sieveForged_lifted (hlaw : ∀ (x0_0 : Int) (x0_1 : Int) (x0_2 : Nat) (x0_3 : Nat) (x0_4 : Nat) (x0_5 : Nat) (x0_6 : Nat) (x0_7 : Nat) (x0_8 : Bool) (x0_9 : Int) (x0_10 : Int) (x0_11 : Int) (x0_12 : Bool) (x0_13 : Int) (v1 : Value) (n1 : Nat) (x2 : Int) (x3_0 : Nat) (x3_1 : Nat) (x3_2 : Nat) (x3_3 : Nat) (x3_4 : Nat) (x3_5 : Nat) (w : World), In64 x0_0 → In64 x0_1 → x0_2 < 256 → x0_3 < 256 → x0_4 < 256 → x0_5 < 256 → x0_6 < 256 → x0_7 < 256 → In64 x0_9 → In64 x0_10 → In64 x0_11 → In64 x0_13 → SlArg 14 OksieveStream w v1 n1 → In64 x2 → x3_0 < 256 → x3_1 < 256 → x3_2 < 256 → x3_3 < 256 → x3_4 < 256 → x3_5 < 256 → Calls Try.prog 4 #[.agg #[.int .i64 x0_0, .int .i64 x0_1, .int .u8 (x0_2 : Int), .int .u8 (x0_3 : Int), .int .u8 (x0_4 : Int), .int .u8 (x0_5 : Int), .int .u8 (x0_6 : Int), .int .u8 (x0_7 : Int), .bool x0_8, .int .i64 x0_9, .int .i64 x0_10, .int .i64 x0_11, .bool x0_12, .int .i64 x0_13], v1, .int .i64 x2, .agg #[.int .u8 (x3_0 : Int), .int .u8 (x3_1 : Int), .int .u8 (x3_2 : Int), .int .u8 (x3_3 : Int), .int .u8 (x3_4 : Int), .int .u8 (x3_5 : Int)]] w fun e w' => e = .returned (.bool true) ∧ Below w.heap.size w w')
    (os : Os) (started : os.Started) (H : Type) (enc : TypeId × Value → H) :
    ReturnsInHanded {} Try.checked os 4 .any (Rows.sieveForgedSpec.pre6 enc Try.prog Try.f4 Rows.sieveForgedRow.domain false) (Rows.sieveForgedSpec.post enc Try.prog Try.f4 false true false false) := by
  refine returnsInHanded_of_change (C := Try.checked) Try.own started (by kernel_rfl) Try.func4
    (ChangeSpec.witness6 (enc := enc) (C := Try.checked) false ⟨#[], #[.agg #[.int .i64 0, .int .i64 0, .int .u8 0, .int .u8 0, .int .u8 0, .int .u8 0, .int .u8 0, .int .u8 0, .bool false, .int .i64 0, .int .i64 0, .int .i64 0, .bool false, .int .i64 0], .slice none 0 0, .int .i64 0, .agg #[.int .u8 0, .int .u8 0, .int .u8 0, .int .u8 0, .int .u8 0, .int .u8 0]], []⟩ 8 (by kernel_rfl) (by kernel_rfl) (by kernel_rfl) (by kernel_rfl)) ?_
  intro W base args ds gs before hval0 hW _ _
  have hval : ∀ (j : Nat) t v, Try.f4.params[j]? = some t → args[j]? = some v → Value.okWide Try.prog W .any base t v := hval0
  have hW' := hW
  obtain ⟨p, q, hA0, hV, rfl, _, _⟩ := hW
  have hA : DataW.TrodAll enc Try.prog W 0 (fun _ => true) true Try.f4.params.toList args.toList ds p := hA0
  rw [Try.params4] at hA hval
  obtain ⟨v0, v1, v2, v3, d0, d1, d2, d3, p0, p1, p2, p3, rfl, rfl, rfl, h0, h1, h2, h3⟩ := trodAll_four hA
  obtain ⟨rfl, rfl⟩ := trodVars_none hV
  obtain ⟨x0_0, x0_1, x0_2, x0_3, x0_4, x0_5, x0_6, x0_7, x0_8, x0_9, x0_10, x0_11, x0_12, x0_13, rfl, e0_0, e0_1, e0_2, e0_3, e0_4, e0_5, e0_6, e0_7, e0_9, e0_10, e0_11, e0_13⟩ := open_sieveStream (hval 0 28 v0 rfl rfl) h0
  obtain ⟨a1, len1, cap1, rfl⟩ := okWide_slice Try.underlying22 (hval 1 22 v1 rfl rfl)
  have hx1 := opens_sieveStream h1
  obtain ⟨x2, rfl, rfl, rfl, w2⟩ := open_int Try.underlying3 (hval 2 3 v2 rfl rfl) h2
  obtain ⟨x3_0, x3_1, x3_2, x3_3, x3_4, x3_5, rfl, e3_0, e3_1, e3_2, e3_3, e3_4, e3_5⟩ := open_apiMac (hval 3 26 v3 rfl rfl) h3
  clear hA0 hval0
  simp only [List.append_nil, List.nil_append] at hW'
  have hlt0 : ∀ x ∈ p0, x.block < W.heap.size := fun x hx => by simpa using hW'.lt x (by simp [hx])
  have hlt1 : ∀ x ∈ p1, x.block < W.heap.size := fun x hx => by simpa using hW'.lt x (by simp [hx])
  have hlt3 : ∀ x ∈ p3, x.block < W.heap.size := fun x hx => by simpa using hW'.lt x (by simp [hx])
  refine (hlaw x0_0 x0_1 x0_2 x0_3 x0_4 x0_5 x0_6 x0_7 x0_8 x0_9 x0_10 x0_11 x0_12 x0_13 _ _ x2 x3_0 x3_1 x3_2 x3_3 x3_4 x3_5 W e0_0 e0_1 e0_2 e0_3 e0_4 e0_5 e0_6 e0_7 e0_9 e0_10 e0_11 e0_13 hx1 (in_of_wf w2) e3_0 e3_1 e3_2 e3_3 e3_4 e3_5).mono fun e W' ⟨he, hw⟩ => ?_
  subst he
  exact ⟨_, rfl, _, _, _, [], _, [], hW', trodAll_mk1 (shut_bool Try.underlying4 true), trodAll_mk4 (Below.trod Try.laidOut (by kernel_rfl) (of_decide_eq_true (by kernel_rfl)) h0 hw hlt0) (Below.trod Try.laidOut (by kernel_rfl) (of_decide_eq_true (by kernel_rfl)) h1 hw hlt1) (shut_int Try.underlying3 w2) (Below.trod Try.laidOut (by kernel_rfl) (of_decide_eq_true (by kernel_rfl)) h3 hw hlt3), rfl, hw.frame _, fun h => by cases h⟩

theorem sieveForged_of (hlaw : ∀ (x0_0 : Int) (x0_1 : Int) (x0_2 : Nat) (x0_3 : Nat) (x0_4 : Nat) (x0_5 : Nat) (x0_6 : Nat) (x0_7 : Nat) (x0_8 : Bool) (x0_9 : Int) (x0_10 : Int) (x0_11 : Int) (x0_12 : Bool) (x0_13 : Int) (v1 : Value) (n1 : Nat) (x2 : Int) (x3_0 : Nat) (x3_1 : Nat) (x3_2 : Nat) (x3_3 : Nat) (x3_4 : Nat) (x3_5 : Nat) (w : World), In64 x0_0 → In64 x0_1 → x0_2 < 256 → x0_3 < 256 → x0_4 < 256 → x0_5 < 256 → x0_6 < 256 → x0_7 < 256 → In64 x0_9 → In64 x0_10 → In64 x0_11 → In64 x0_13 → SlArg 14 OksieveStream w v1 n1 → In64 x2 → x3_0 < 256 → x3_1 < 256 → x3_2 < 256 → x3_3 < 256 → x3_4 < 256 → x3_5 < 256 → Calls Try.prog 4 #[.agg #[.int .i64 x0_0, .int .i64 x0_1, .int .u8 (x0_2 : Int), .int .u8 (x0_3 : Int), .int .u8 (x0_4 : Int), .int .u8 (x0_5 : Int), .int .u8 (x0_6 : Int), .int .u8 (x0_7 : Int), .bool x0_8, .int .i64 x0_9, .int .i64 x0_10, .int .i64 x0_11, .bool x0_12, .int .i64 x0_13], v1, .int .i64 x2, .agg #[.int .u8 (x3_0 : Int), .int .u8 (x3_1 : Int), .int .u8 (x3_2 : Int), .int .u8 (x3_3 : Int), .int .u8 (x3_4 : Int), .int .u8 (x3_5 : Int)]] w fun e w' => e = .returned (.bool true) ∧ Below w.heap.size w w') : Rows.SieveForgedSaid :=
  OpenClaim.holds_of_wide 4 Try.f4 rfl rfl rfl rfl rfl rfl rfl ⟨rfl, rfl, rfl, rfl, rfl⟩ rfl rfl rfl rfl rfl (by kernel_rfl) Try.func4 (by kernel_rfl)
    (of_decide_eq_true (by kernel_rfl)) (by unfold Func.isWrapper; rw [if_neg (of_decide_eq_false (by kernel_rfl))]; exact ⟨rfl, rfl⟩)
    (fun os started H enc _ => sieveForged_lifted hlaw os started H enc)

end Go.Proofs.Ytpdfgdjomlogbab
