/- From what the law's call comes to, to the given statement: the arguments opened, and shut again. -/
import Derived.Test.YtfohfpeeghnocaaPost
namespace Go.Proofs.Ytfohfpeeghnocaa
open Go.RowKit Go.WideShapes Go.ChangeShapes Go.ChangeAt Go.Joins

set_option maxRecDepth 100000 in
theorem wideDivs_lifted (hlaw : ∀ (a1 a0 b : Int), 0 ≤ a1 → a1 < 18446744073709551616 → 0 ≤ a0 → a0 < 18446744073709551616 → 0 ≤ b → b < 18446744073709551616 → ∀ w : World, Calls Try.prog 5 #[.agg #[.int .u64 a1, .int .u64 a0], .int .u64 b] w fun e w' => e = .returned (.bool true) ∧ Below w.heap.size w w')
    (os : Os) (started : os.Started) (H : Type) (enc : TypeId × Value → H) :
    ReturnsInHanded {} Try.checked os 5 .any (Rows.wideDivsSpec.pre6 enc Try.prog Try.f5 Rows.wideDivsRow.domain false) (Rows.wideDivsSpec.post enc Try.prog Try.f5 false true false false) := by
  refine returnsInHanded_of_change (C := Try.checked) Try.own started (by kernel_rfl) Try.func5
    (ChangeSpec.witness6 (enc := enc) (C := Try.checked) false ⟨#[], #[.agg #[.int .u64 0, .int .u64 0], .int .u64 0], []⟩ 8 (by kernel_rfl) (by kernel_rfl) (by kernel_rfl) (by kernel_rfl)) ?_
  intro W base args ds gs before hval0 hW _ _
  have hval : ∀ (j : Nat) t v, Try.f5.params[j]? = some t → args[j]? = some v → Value.okWide Try.prog W .any base t v := hval0
  have hW' := hW
  obtain ⟨p, q, hA0, hV, rfl, _, _⟩ := hW
  have hA : DataW.TrodAll enc Try.prog W 0 (fun _ => true) true Try.f5.params.toList args.toList ds p := hA0
  rw [Try.params5] at hA hval
  obtain ⟨v0, v1, d0, d1, p0, p1, rfl, rfl, rfl, h0, h1⟩ := trodAll_two hA
  obtain ⟨rfl, rfl⟩ := trodVars_none hV
  obtain ⟨ca1, ca0, ya1, ya0, ma, rfl, rfl, rfl, hya1, hya0⟩ := open_agg2 Try.underlying24 (by kernel_rfl) Try.cells24 (hval 0 24 v0 rfl rfl) h0
  obtain ⟨a1, ea1, rfl, wa1⟩ := DataW.trod_int Try.underlying22 hya1
  obtain ⟨a0, ea0, rfl, wa0⟩ := DataW.trod_int Try.underlying22 hya0
  simp at ea1 ea0
  subst ea1 ea0
  obtain ⟨b, rfl, rfl, rfl, wb⟩ := open_int Try.underlying22 (hval 1 22 v1 rfl rfl) h1
  have bda1 := bounds_u64 wa1
  have bda0 := bounds_u64 wa0
  have bdb := bounds_u64 wb
  clear hA0 hval0
  simp only [List.append_nil] at hW'
  refine (hlaw a1 a0 b (by omega) (by omega) (by omega) (by omega) (by omega) (by omega) W).mono fun e W' ⟨he, hw⟩ => ?_
  subst he
  exact ⟨_, rfl, post_below (pa := []) (pv := []) hW' (fun _ _ _ => trodAll_mk1 (shut_bool Try.underlying4 true)) (fun sp _ => trodAll_mk2 (shut_agg2 (y0 := (.lit (.int .u64 a1), [])) (y1 := (.lit (.int .u64 a0), [])) Try.underlying24 (by kernel_rfl) Try.cells24 ⟨1, by simp [DataW.trod, Try.underlying22, wa1]⟩ ⟨1, by simp [DataW.trod, Try.underlying22, wa0]⟩) (shut_int Try.underlying22 wb)) (fun _ _ => rfl) rfl hw (ok_one (by kernel_rfl) rfl (okWide_bool_mk Try.underlying4 true))⟩

theorem wideDivs_of (hlaw : ∀ (a1 a0 b : Int), 0 ≤ a1 → a1 < 18446744073709551616 → 0 ≤ a0 → a0 < 18446744073709551616 → 0 ≤ b → b < 18446744073709551616 → ∀ w : World, Calls Try.prog 5 #[.agg #[.int .u64 a1, .int .u64 a0], .int .u64 b] w fun e w' => e = .returned (.bool true) ∧ Below w.heap.size w w') : Rows.WideDivsSaid :=
  OpenClaim.holds_of_wide 5 Try.f5 rfl rfl rfl rfl rfl rfl rfl ⟨rfl, rfl, rfl, rfl, rfl⟩ rfl rfl rfl rfl rfl (by kernel_rfl) Try.func5 (by kernel_rfl)
    (of_decide_eq_true (by kernel_rfl)) (by unfold Func.isWrapper; rw [if_neg (of_decide_eq_false (by kernel_rfl))]; exact ⟨rfl, rfl⟩)
    (fun os started H enc _ => wideDivs_lifted hlaw os started H enc)

end Go.Proofs.Ytfohfpeeghnocaa
