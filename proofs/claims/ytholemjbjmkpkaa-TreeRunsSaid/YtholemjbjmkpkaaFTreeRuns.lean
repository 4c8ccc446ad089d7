/- From what the law's call comes to, to the given statement: the arguments opened, and carried behind the call. -/
import Derived.Test.YtholemjbjmkpkaaS11MS
import Derived.Test.YtholemjbjmkpkaaTrFive
namespace Go.Proofs.Ytholemjbjmkpkaa
open Go.RowKit Go.WideShapes Go.ChangeShapes Go.ChangeAt Go.Joins

set_option maxRecDepth 100000 in
theorem treeRuns_lifted (hlaw : ∀ (x0 : Int) (z1_0 z1_1 z1_2 z1_3 : Int) (x2 : Int) (x3 : Int) (v4 : Value) (n4 : Nat) (w : World), In64 x0 → In64 z1_0 → In64 z1_1 → In64 z1_2 → In64 z1_3 → In64 x2 → In64 x3 → TArg w v4 n4 → Calls Try.prog 9 #[.int .i64 x0, .agg #[.int .i64 z1_0, .int .i64 z1_1, .int .i64 z1_2, .int .i64 z1_3], .int .i64 x2, .int .i64 x3, v4] w fun e w' => e = .returned (.bool true) ∧ Below w.heap.size w w')
    (os : Os) (started : os.Started) (H : Type) (enc : TypeId × Value → H) :
    ReturnsInHanded {} Try.checked os 9 .any (Rows.treeRunsSpec.pre6 enc Try.prog Try.f9 Rows.treeRunsRow.domain false) (Rows.treeRunsSpec.post enc Try.prog Try.f9 false true false false) := by
  refine returnsInHanded_of_change (C := Try.checked) Try.own started (by kernel_rfl) Try.func9
    (ChangeSpec.witness6 (enc := enc) (C := Try.checked) false ⟨#[], #[.int .i64 0, .agg #[.int .i64 0, .int .i64 0, .int .i64 0, .int .i64 0], .int .i64 0, .int .i64 0, .slice none 0 0], []⟩ 8 (by kernel_rfl) (by kernel_rfl) (by kernel_rfl) (by kernel_rfl)) ?_
  intro W base args ds gs before hval0 hW _ _
  have hval : ∀ (j : Nat) t v, Try.f9.params[j]? = some t → args[j]? = some v → Value.okWide Try.prog W .any base t v := hval0
  have hW' := hW
  obtain ⟨p, q, hA0, hV, rfl, _, _⟩ := hW
  have hA : DataW.TrodAll enc Try.prog W 0 (fun _ => true) true Try.f9.params.toList args.toList ds p := hA0
  rw [Try.params9] at hA hval
  obtain ⟨v0, v1, v2, v3, v4, d0, d1, d2, d3, d4, p0, p1, p2, p3, p4, rfl, rfl, rfl, h0, h1, h2, h3, h4⟩ := trodAll_five hA
  obtain ⟨rfl, rfl⟩ := trodVars_none hV
  obtain ⟨x0, rfl, rfl, rfl, w0⟩ := open_int Try.underlying3 (hval 0 3 v0 rfl rfl) h0
  obtain ⟨z1_0, z1_1, z1_2, z1_3, rfl, e1_0, e1_1, e1_2, e1_3⟩ := open_ptpPrior (hval 1 23 v1 rfl rfl) h1
  obtain ⟨x2, rfl, rfl, rfl, w2⟩ := open_int Try.underlying3 (hval 2 3 v2 rfl rfl) h2
  obtain ⟨x3, rfl, rfl, rfl, w3⟩ := open_int Try.underlying3 (hval 3 3 v3 rfl rfl) h3
  obtain ⟨a4, len4, cap4, rfl⟩ := okWide_slice Try.underlying49 (hval 4 49 v4 rfl rfl)
  have hx4 := opens_steps h4
  clear hA0 hval0
  simp only [List.append_nil, List.nil_append] at hW'
  have hlt1 : ∀ x ∈ p1, x.block < W.heap.size := fun x hx => by simpa using hW'.lt x (by simp [hx])
  have hlt4 : ∀ x ∈ p4, x.block < W.heap.size := fun x hx => by simpa using hW'.lt x (by simp [hx])
  refine (hlaw x0 z1_0 z1_1 z1_2 z1_3 x2 x3 _ _ W (in_of_wf w0) e1_0 e1_1 e1_2 e1_3 (in_of_wf w2) (in_of_wf w3) hx4).mono fun e W' ⟨he, hw⟩ => ?_
  subst he
  exact ⟨_, rfl, _, _, _, [], _, [], hW', trodAll_mk1 (shut_bool Try.underlying4 true), trodAll_mk5 (shut_int Try.underlying3 w0) (Below.trod Try.laidOut (by kernel_rfl) (of_decide_eq_true (by kernel_rfl)) h1 hw hlt1) (shut_int Try.underlying3 w2) (shut_int Try.underlying3 w3) (Below.trod Try.laidOut (by kernel_rfl) (of_decide_eq_true (by kernel_rfl)) h4 hw hlt4), rfl, hw.frame _, fun h => by cases h⟩

theorem treeRuns_of (hlaw : ∀ (x0 : Int) (z1_0 z1_1 z1_2 z1_3 : Int) (x2 : Int) (x3 : Int) (v4 : Value) (n4 : Nat) (w : World), In64 x0 → In64 z1_0 → In64 z1_1 → In64 z1_2 → In64 z1_3 → In64 x2 → In64 x3 → TArg w v4 n4 → Calls Try.prog 9 #[.int .i64 x0, .agg #[.int .i64 z1_0, .int .i64 z1_1, .int .i64 z1_2, .int .i64 z1_3], .int .i64 x2, .int .i64 x3, v4] w fun e w' => e = .returned (.bool true) ∧ Below w.heap.size w w') : Rows.TreeRunsSaid :=
  OpenClaim.holds_of_wide 9 Try.f9 rfl rfl rfl rfl rfl rfl rfl ⟨rfl, rfl, rfl, rfl, rfl⟩ rfl rfl rfl rfl rfl (by kernel_rfl) Try.func9 (by kernel_rfl)
    (of_decide_eq_true (by kernel_rfl)) (by unfold Func.isWrapper; rw [if_neg (of_decide_eq_false (by kernel_rfl))]; exact ⟨rfl, rfl⟩)
    (fun os started H enc _ => treeRuns_lifted hlaw os started H enc)

end Go.Proofs.Ytholemjbjmkpkaa
