/- From what the law's call comes to, to the given statement: the arguments opened, and carried behind the call. -/
import Derived.Test.YtpdfgdjomlogbabS5ArgS
namespace Go.Proofs.Ytpdfgdjomlogbab
open Go.RowKit Go.WideShapes Go.ChangeShapes Go.ChangeAt Go.Joins

set_option maxRecDepth 100000 in
theorem sieveFirst_lifted (hlaw : ∀ (v0 : Value) (n0 : Nat) (x1_0 : Bool) (x1_1 : Int) (x1_2 : Int) (x1_3 : Int) (x1_4 : Int) (x1_5 : Nat) (x1_6 : Nat) (x1_7 : Nat) (x1_8 : Nat) (x1_9 : Nat) (x1_10 : Nat) (x1_11 : Nat) (x1_12 : Nat) (x1_13 : Nat) (x1_14 : Nat) (x1_15 : Nat) (x1_16 : Nat) (x1_17 : Int) (x1_18 : Int) (w : World), SlArg 14 OksieveStream w v0 n0 → In64 x1_1 → In64 x1_2 → In64 x1_3 → In64 x1_4 → x1_5 < 256 → x1_6 < 256 → x1_7 < 256 → x1_8 < 256 → x1_9 < 256 → x1_10 < 256 → x1_11 < 256 → x1_12 < 256 → x1_13 < 256 → x1_14 < 256 → x1_15 < 256 → x1_16 < 256 → In64 x1_17 → In64 x1_18 → Calls Try.prog 5 #[v0, .agg #[.bool x1_0, .int .i64 x1_1, .int .i64 x1_2, .int .i64 x1_3, .int .i64 x1_4, .int .u8 (x1_5 : Int), .int .u8 (x1_6 : Int), .int .u8 (x1_7 : Int), .int .u8 (x1_8 : Int), .int .u8 (x1_9 : Int), .int .u8 (x1_10 : Int), .int .u8 (x1_11 : Int), .int .u8 (x1_12 : Int), .int .u8 (x1_13 : Int), .int .u8 (x1_14 : Int), .int .u8 (x1_15 : Int), .int .u8 (x1_16 : Int), .int .i64 x1_17, .int .i64 x1_18]] w fun e w' => e = .returned (.bool true) ∧ Below w.heap.size w w')
    (os : Os) (started : os.Started) (H : Type) (enc : TypeId × Value → H) :
    ReturnsInHanded {} Try.checked os 5 .any (Rows.sieveFirstSpec.pre6 enc Try.prog Try.f5 Rows.sieveFirstRow.domain false) (Rows.sieveFirstSpec.post enc Try.prog Try.f5 false true false false) := by
  refine returnsInHanded_of_change (C := Try.checked) Try.own started (by kernel_rfl) Try.func5
    (ChangeSpec.witness6 (enc := enc) (C := Try.checked) false ⟨#[], #[.slice none 0 0, .agg #[.bool false, .int .i64 0, .int .i64 0, .int .i64 0, .int .i64 0, .int .u8 0, .int .u8 0, .int .u8 0, .int .u8 0, .int .u8 0, .int .u8 0, .int .u8 0, .int .u8 0, .int .u8 0, .int .u8 0, .int .u8 0, .int .u8 0, .int .i64 0, .int .i64 0]], []⟩ 8 (by kernel_rfl) (by kernel_rfl) (by kernel_rfl) (by kernel_rfl)) ?_
  intro W base args ds gs before hval0 hW _ _
  have hval : ∀ (j : Nat) t v, Try.f5.params[j]? = some t → args[j]? = some v → Value.okWide Try.prog W .any base t v := hval0
  have hW' := hW
  obtain ⟨p, q, hA0, hV, rfl, _, _⟩ := hW
  have hA : DataW.TrodAll enc Try.prog W 0 (fun _ => true) true Try.f5.params.toList args.toList ds p := hA0
  rw [Try.params5] at hA hval
  obtain ⟨v0, v1, d0, d1, p0, p1, rfl, rfl, rfl, h0, h1⟩ := trodAll_two hA
  obtain ⟨rfl, rfl⟩ := trodVars_none hV
  obtain ⟨a0, len0, cap0, rfl⟩ := okWide_slice Try.underlying22 (hval 0 22 v0 rfl rfl)
  have hx0 := opens_sieveStream h0
  obtain ⟨x1_0, x1_1, x1_2, x1_3, x1_4, x1_5, x1_6, x1_7, x1_8, x1_9, x1_10, x1_11, x1_12, x1_13, x1_14, x1_15, x1_16, x1_17, x1_18, rfl, e1_1, e1_2, e1_3, e1_4, e1_5, e1_6, e1_7, e1_8, e1_9, e1_10, e1_11, e1_12, e1_13, e1_14, e1_15, e1_16, e1_17, e1_18⟩ := open_sandglasslaw12Step (hval 1 34 v1 rfl rfl) h1
  clear hA0 hval0
  simp only [List.append_nil, List.nil_append] at hW'
  have hlt0 : ∀ x ∈ p0, x.block < W.heap.size := fun x hx => by simpa using hW'.lt x (by simp [hx])
  have hlt1 : ∀ x ∈ p1, x.block < W.heap.size := fun x hx => by simpa using hW'.lt x (by simp [hx])
  refine (hlaw _ _ x1_0 x1_1 x1_2 x1_3 x1_4 x1_5 x1_6 x1_7 x1_8 x1_9 x1_10 x1_11 x1_12 x1_13 x1_14 x1_15 x1_16 x1_17 x1_18 W hx0 e1_1 e1_2 e1_3 e1_4 e1_5 e1_6 e1_7 e1_8 e1_9 e1_10 e1_11 e1_12 e1_13 e1_14 e1_15 e1_16 e1_17 e1_18).mono fun e W' ⟨he, hw⟩ => ?_
  subst he
  exact ⟨_, rfl, _, _, _, [], _, [], hW', trodAll_mk1 (shut_bool Try.underlying4 true), trodAll_mk2 (Below.trod Try.laidOut (by kernel_rfl) (of_decide_eq_true (by kernel_rfl)) h0 hw hlt0) (Below.trod Try.laidOut (by kernel_rfl) (of_decide_eq_true (by kernel_rfl)) h1 hw hlt1), rfl, hw.frame _, fun h => by cases h⟩

theorem sieveFirst_of (hlaw : ∀ (v0 : Value) (n0 : Nat) (x1_0 : Bool) (x1_1 : Int) (x1_2 : Int) (x1_3 : Int) (x1_4 : Int) (x1_5 : Nat) (x1_6 : Nat) (x1_7 : Nat) (x1_8 : Nat) (x1_9 : Nat) (x1_10 : Nat) (x1_11 : Nat) (x1_12 : Nat) (x1_13 : Nat) (x1_14 : Nat) (x1_15 : Nat) (x1_16 : Nat) (x1_17 : Int) (x1_18 : Int) (w : World), SlArg 14 OksieveStream w v0 n0 → In64 x1_1 → In64 x1_2 → In64 x1_3 → In64 x1_4 → x1_5 < 256 → x1_6 < 256 → x1_7 < 256 → x1_8 < 256 → x1_9 < 256 → x1_10 < 256 → x1_11 < 256 → x1_12 < 256 → x1_13 < 256 → x1_14 < 256 → x1_15 < 256 → x1_16 < 256 → In64 x1_17 → In64 x1_18 → Calls Try.prog 5 #[v0, .agg #[.bool x1_0, .int .i64 x1_1, .int .i64 x1_2, .int .i64 x1_3, .int .i64 x1_4, .int .u8 (x1_5 : Int), .int .u8 (x1_6 : Int), .int .u8 (x1_7 : Int), .int .u8 (x1_8 : Int), .int .u8 (x1_9 : Int), .int .u8 (x1_10 : Int), .int .u8 (x1_11 : Int), .int .u8 (x1_12 : Int), .int .u8 (x1_13 : Int), .int .u8 (x1_14 : Int), .int .u8 (x1_15 : Int), .int .u8 (x1_16 : Int), .int .i64 x1_17, .int .i64 x1_18]] w fun e w' => e = .returned (.bool true) ∧ Below w.heap.size w w') : Rows.SieveFirstSaid :=
  OpenClaim.holds_of_wide 5 Try.f5 rfl rfl rfl rfl rfl rfl rfl ⟨rfl, rfl, rfl, rfl, rfl⟩ rfl rfl rfl rfl rfl (by kernel_rfl) Try.func5 (by kernel_rfl)
    (of_decide_eq_true (by kernel_rfl)) (by unfold Func.isWrapper; rw [if_neg (of_decide_eq_false (by kernel_rfl))]; exact ⟨rfl, rfl⟩)
    (fun os started H enc _ => sieveFirst_lifted hlaw os started H enc)

end Go.Proofs.Ytpdfgdjomlogbab
