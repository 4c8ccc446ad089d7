/- From what the law's call comes to, to the given statement: the arguments opened, and carried behind the call. -/
import Derived.Test.YtffjbngelapmmaaOsArg
namespace Go.Proofs.Ytffjbngelapmmaa
open Go.RowKit Go.WideShapes Go.ChangeShapes Go.ChangeAt Go.Joins

set_option maxRecDepth 100000 in
theorem oscMarks_lifted (hlaw : ∀ (x0 : Int) (x1 : Int) (v2 : Value) (x2 : List (Int × Int)) (x3 : Int) (x4 : Int) (w : World), -9223372036854775808 ≤ x0 → x0 < 9223372036854775808 → -9223372036854775808 ≤ x1 → x1 < 9223372036854775808 → TArg w v2 x2 → -9223372036854775808 ≤ x3 → x3 < 9223372036854775808 → -9223372036854775808 ≤ x4 → x4 < 9223372036854775808 → Calls Try.prog 7 #[.int .i64 x0, .int .i64 x1, v2, .int .i64 x3, .int .i64 x4] w fun e w' => e = .returned (.bool true) ∧ Below w.heap.size w w')
    (os : Os) (started : os.Started) (H : Type) (enc : TypeId × Value → H) :
    ReturnsInHanded {} Try.checked os 7 .any (Rows.oscMarksSpec.pre6 enc Try.prog Try.f7 Rows.oscMarksRow.domain false) (Rows.oscMarksSpec.post enc Try.prog Try.f7 false true false false) := by
  refine returnsInHanded_of_change (C := Try.checked) Try.own started (by kernel_rfl) Try.func7
    (ChangeSpec.witness6 (enc := enc) (C := Try.checked) false ⟨#[], #[.int .i64 0, .int .i64 0, .slice none 0 0, .int .i64 0, .int .i64 0], []⟩ 8 (by kernel_rfl) (by kernel_rfl) (by kernel_rfl) (by kernel_rfl)) ?_
  intro W base args ds gs before hval0 hW _ _
  have hval : ∀ (j : Nat) t v, Try.f7.params[j]? = some t → args[j]? = some v → Value.okWide Try.prog W .any base t v := hval0
  have hW' := hW
  obtain ⟨p, q, hA0, hV, rfl, _, _⟩ := hW
  have hA : DataW.TrodAll enc Try.prog W 0 (fun _ => true) true Try.f7.params.toList args.toList ds p := hA0
  rw [Try.params7] at hA hval
  obtain ⟨v0, v1, v2, v3, v4, d0, d1, d2, d3, d4, p0, p1, p2, p3, p4, rfl, rfl, rfl, h0, h1, h2, h3, h4⟩ := trodAll_five hA
  obtain ⟨rfl, rfl⟩ := trodVars_none hV
  obtain ⟨x0, rfl, rfl, rfl, w0⟩ := open_int Try.underlying22 (hval 0 22 v0 rfl rfl) h0
  have bd0 := bounds_i64 w0
  obtain ⟨x1, rfl, rfl, rfl, w1⟩ := open_int Try.underlying3 (hval 1 3 v1 rfl rfl) h1
  have bd1 := bounds_i64 w1
  obtain ⟨a2, len2, cap2, rfl⟩ := okWide_slice Try.underlying23 (hval 2 23 v2 rfl rfl)
  obtain ⟨x2, hx2⟩ := open_turns h2
  obtain ⟨x3, rfl, rfl, rfl, w3⟩ := open_int Try.underlying3 (hval 3 3 v3 rfl rfl) h3
  have bd3 := bounds_i64 w3
  obtain ⟨x4, rfl, rfl, rfl, w4⟩ := open_int Try.underlying3 (hval 4 3 v4 rfl rfl) h4
  have bd4 := bounds_i64 w4
  clear hA0 hval0
  simp only [List.append_nil, List.nil_append] at hW'
  have hlt2 : ∀ x ∈ p2, x.block < W.heap.size := fun x hx => by simpa using hW'.lt x (by simp [hx])
  refine (hlaw x0 x1 _ x2 x3 x4 W (by omega) (by omega) (by omega) (by omega) hx2 (by omega) (by omega) (by omega) (by omega)).mono fun e W' ⟨he, hw⟩ => ?_
  subst he
  exact ⟨_, rfl, _, _, _, [], _, [], hW', trodAll_mk1 (shut_bool Try.underlying4 true), trodAll_mk5 (shut_int Try.underlying22 w0) (shut_int Try.underlying3 w1) (Below.trod Try.laidOut (by kernel_rfl) (of_decide_eq_true (by kernel_rfl)) h2 hw hlt2) (shut_int Try.underlying3 w3) (shut_int Try.underlying3 w4), rfl, hw.frame _, fun h => by cases h⟩

theorem oscMarks_of (hlaw : ∀ (x0 : Int) (x1 : Int) (v2 : Value) (x2 : List (Int × Int)) (x3 : Int) (x4 : Int) (w : World), -9223372036854775808 ≤ x0 → x0 < 9223372036854775808 → -9223372036854775808 ≤ x1 → x1 < 9223372036854775808 → TArg w v2 x2 → -9223372036854775808 ≤ x3 → x3 < 9223372036854775808 → -9223372036854775808 ≤ x4 → x4 < 9223372036854775808 → Calls Try.prog 7 #[.int .i64 x0, .int .i64 x1, v2, .int .i64 x3, .int .i64 x4] w fun e w' => e = .returned (.bool true) ∧ Below w.heap.size w w') : Rows.OscMarksSaid :=
  OpenClaim.holds_of_wide 7 Try.f7 rfl rfl rfl rfl rfl rfl rfl ⟨rfl, rfl, rfl, rfl, rfl⟩ rfl rfl rfl rfl rfl (by kernel_rfl) Try.func7 (by kernel_rfl)
    (of_decide_eq_true (by kernel_rfl)) (by unfold Func.isWrapper; rw [if_neg (of_decide_eq_false (by kernel_rfl))]; exact ⟨rfl, rfl⟩)
    (fun os started H enc _ => oscMarks_lifted hlaw os started H enc)

end Go.Proofs.Ytffjbngelapmmaa
