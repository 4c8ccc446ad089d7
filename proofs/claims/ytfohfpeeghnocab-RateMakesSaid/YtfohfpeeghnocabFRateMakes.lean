/- From what the law's call comes to, to the given statement: the arguments opened, and shut again. -/
import Derived.Test.YtfohfpeeghnocabPost
import Derived.WalkLawsBesides
namespace Go.Proofs.Ytfohfpeeghnocab
open Go.RowKit Go.WideShapes Go.ChangeShapes Go.ChangeAt Go.Joins

set_option maxRecDepth 100000 in
theorem rateMakes_lifted (hlaw : ∀ (a : Nat), a < 18446744073709551616 → ∀ w : World, Calls Try.prog 3 #[.float .f64 a] w fun e w' => e = .returned (.bool true) ∧ Below w.heap.size w w')
    (os : Os) (started : os.Started) (H : Type) (enc : TypeId × Value → H) :
    ReturnsInHanded {} Try.checked os 3 .any (Rows.rateMakesSpec.pre6 enc Try.prog Try.f3 Rows.rateMakesRow.domain false) (Rows.rateMakesSpec.post enc Try.prog Try.f3 false true false false) := by
  refine returnsInHanded_of_change (C := Try.checked) Try.own started (by kernel_rfl) Try.func3
    (ChangeSpec.witness6 (enc := enc) (C := Try.checked) false ⟨#[], #[.float .f64 0], []⟩ 8 (by kernel_rfl) (by kernel_rfl) (by kernel_rfl) (by kernel_rfl)) ?_
  intro W base args ds gs before hval0 hW _ _
  have hval : ∀ (j : Nat) t v, Try.f3.params[j]? = some t → args[j]? = some v → Value.okWide Try.prog W .any base t v := hval0
  have hW' := hW
  obtain ⟨p, q, hA0, hV, rfl, _, _⟩ := hW
  have hA : DataW.TrodAll enc Try.prog W 0 (fun _ => true) true Try.f3.params.toList args.toList ds p := hA0
  rw [Try.params3] at hA hval
  obtain ⟨v0, d0, rfl, rfl, h0⟩ := trodAll_one hA
  obtain ⟨rfl, rfl⟩ := trodVars_none hV
  obtain ⟨a, rfl, rfl, rfl, wa⟩ := open_float Try.underlying22 (hval 0 22 v0 rfl rfl) h0
  have bda : a < 18446744073709551616 := by simpa [Lit.wf] using wa
  clear hA0 hval0
  simp only [List.append_nil] at hW'
  refine (hlaw a bda W).mono fun e W' ⟨he, hw⟩ => ?_
  subst he
  exact ⟨_, rfl, post_below (pa := []) (pv := []) hW' (fun _ _ _ => trodAll_mk1 (shut_bool Try.underlying4 true)) (fun sp _ => trodAll_mk1 (shut_float Try.underlying22 wa)) (fun _ _ => rfl) rfl hw (ok_one (by kernel_rfl) rfl (okWide_bool_mk Try.underlying4 true))⟩

theorem rateMakes_of (hlaw : ∀ (a : Nat), a < 18446744073709551616 → ∀ w : World, Calls Try.prog 3 #[.float .f64 a] w fun e w' => e = .returned (.bool true) ∧ Below w.heap.size w w') : Rows.RateMakesSaid :=
  OpenClaim.holds_of_wide 3 Try.f3 rfl rfl rfl rfl rfl rfl rfl ⟨rfl, rfl, rfl, rfl, rfl⟩ rfl rfl rfl rfl rfl (by kernel_rfl) Try.func3 (by kernel_rfl)
    (of_decide_eq_true (by kernel_rfl)) (by unfold Func.isWrapper; rw [if_neg (of_decide_eq_false (by kernel_rfl))]; exact ⟨rfl, rfl⟩)
    (fun os started H enc _ => rateMakes_lifted hlaw os started H enc)

end Go.Proofs.Ytfohfpeeghnocab
