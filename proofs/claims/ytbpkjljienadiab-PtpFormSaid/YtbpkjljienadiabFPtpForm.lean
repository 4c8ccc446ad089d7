/- From what the law's call comes to, to the given statement: the arguments opened, and carried behind the call. -/
import Derived.Test.YtbpkjljienadiabPtOpenM
namespace Go.Proofs.Ytbpkjljienadiab
open Go.RowKit Go.WideShapes Go.ChangeShapes Go.ChangeAt Go.Joins

set_option maxRecDepth 100000 in
theorem ptpForm_lifted (hlaw : ∀ (bv : Value) (xs : List Nat) (a : Int) (y : Int) (w : World), BArg w bv xs → -9223372036854775808 ≤ a → a < 9223372036854775808 → 0 ≤ y → y < 256 → Calls Try.prog 5 #[bv, .int .i64 a, .int .u8 y] w fun e w' => e = .returned (.bool true) ∧ Below w.heap.size w w')
    (os : Os) (started : os.Started) (H : Type) (enc : TypeId × Value → H) :
    ReturnsInHanded {} Try.checked os 5 .any (Rows.ptpFormSpec.pre6 enc Try.prog Try.f5 Rows.ptpFormRow.domain false) (Rows.ptpFormSpec.post enc Try.prog Try.f5 false true false false) := by
  refine returnsInHanded_of_change (C := Try.checked) Try.own started (by kernel_rfl) Try.func5
    (ChangeSpec.witness6 (enc := enc) (C := Try.checked) false ⟨#[], #[.slice none 0 0, .int .i64 0, .int .u8 0], []⟩ 8 (by kernel_rfl) (by kernel_rfl) (by kernel_rfl) (by kernel_rfl)) ?_
  intro W base args ds gs before hval0 hW _ _
  have hval : ∀ (j : Nat) t v, Try.f5.params[j]? = some t → args[j]? = some v → Value.okWide Try.prog W .any base t v := hval0
  have hW' := hW
  obtain ⟨p, q, hA0, hV, rfl, _, _⟩ := hW
  have hA : DataW.TrodAll enc Try.prog W 0 (fun _ => true) true Try.f5.params.toList args.toList ds p := hA0
  rw [Try.params5] at hA hval
  obtain ⟨v0, v1, v2, d0, d1, d2, p0, p1, p2, rfl, rfl, rfl, h0, h1, h2⟩ := trodAll_three hA
  obtain ⟨rfl, rfl⟩ := trodVars_none hV
  obtain ⟨a0, len, cap, rfl⟩ := okWide_slice Try.underlying30 (hval 0 30 v0 rfl rfl)
  obtain ⟨xs, hxs⟩ := open_bytes h0
  have hk1 := h1
  obtain ⟨a, rfl, rfl, rfl, wa⟩ := open_int Try.underlying3 (hval 1 3 v1 rfl rfl) h1
  have bda := bounds_i64 wa
  have hk2 := h2
  obtain ⟨y, rfl, rfl, rfl, wy⟩ := open_int Try.underlying5 (hval 2 5 v2 rfl rfl) h2
  have bdy := bounds_u8 wy
  clear hA0 hval0
  simp only [List.append_nil] at hW'
  have hlt0 : ∀ x ∈ p0, x.block < W.heap.size := fun x hx => by simpa using hW'.lt x (by simp [hx])
  refine (hlaw _ xs a y W hxs (by omega) (by omega) (by omega) (by omega)).mono fun e W' ⟨he, hw⟩ => ?_
  subst he
  refine ⟨_, rfl, _, _, _, [], _, [], hW', trodAll_mk1 (shut_bool Try.underlying4 true), trodAll_mk3 (Below.trod Try.laidOut (by kernel_rfl) (of_decide_eq_true (by kernel_rfl)) h0 hw hlt0) (shut_int Try.underlying3 wa) (shut_int Try.underlying5 wy), rfl, hw.frame _, fun h => by cases h⟩

theorem ptpForm_of (hlaw : ∀ (bv : Value) (xs : List Nat) (a : Int) (y : Int) (w : World), BArg w bv xs → -9223372036854775808 ≤ a → a < 9223372036854775808 → 0 ≤ y → y < 256 → Calls Try.prog 5 #[bv, .int .i64 a, .int .u8 y] w fun e w' => e = .returned (.bool true) ∧ Below w.heap.size w w') : Rows.PtpFormSaid :=
  OpenClaim.holds_of_wide 5 Try.f5 rfl rfl rfl rfl rfl rfl rfl ⟨rfl, rfl, rfl, rfl, rfl⟩ rfl rfl rfl rfl rfl (by kernel_rfl) Try.func5 (by kernel_rfl)
    (of_decide_eq_true (by kernel_rfl)) (by unfold Func.isWrapper; rw [if_neg (of_decide_eq_false (by kernel_rfl))]; exact ⟨rfl, rfl⟩)
    (fun os started H enc _ => ptpForm_lifted hlaw os started H enc)

end Go.Proofs.Ytbpkjljienadiab
