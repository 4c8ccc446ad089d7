/- From what the law's call comes to, to the given statement: the arguments opened, and carried behind the call. -/
import Derived.Test.YtkbodcgamfkegaaS5ArgF
namespace Go.Proofs.Ytkbodcgamfkegaa
open Go.RowKit Go.WideShapes Go.ChangeShapes Go.ChangeAt Go.Joins

theorem slice_len {H : Type} {enc : TypeId × Value → H} {w : World} {base : Nat} {spare : Nat → Bool} {held : Bool} {t e : TypeId} (ht : Try.prog.underlying t = some (.slice e)) {a0 : Option Addr} {len cap : Nat} {d : DataW H} {p : List MemPlace} (h : DataW.Trod enc Try.prog w base spare held t (.slice a0 len cap) d p) : len ≤ 9223372036854775807 := by
  obtain ⟨fuel, hf⟩ := h
  rcases Deep.open_slice ht hf with ⟨hcs, _⟩ | ⟨a, len', cap', m, n, D, Pl, hcs, _, hl, hm, _⟩
  · simp [Value.cells] at hcs
    omega
  · simp [Value.cells] at hcs
    unfold maxLen at hm
    omega
set_option maxRecDepth 100000 in
theorem fdbApartM_lifted (hlaw : ∀ (x0 : Int) (x1_0 : Int) (x1_1 : Int) (x2_0 : Int) (x2_1 : Nat) (x2_2 : Nat) (x2_3 : Nat) (x2_4 : Nat) (x2_5 : Nat) (x2_6 : Nat) (x3 : Int) (v4 : Value) (n4 : Nat) (w : World), In64 x0 → In64 x1_0 → In64 x1_1 → In64 x2_0 → x2_1 < 256 → x2_2 < 256 → x2_3 < 256 → x2_4 < 256 → x2_5 < 256 → x2_6 < 256 → In64 x3 → SlArg 1 Okint w v4 n4 → n4 ≤ 9223372036854775807 → Calls Try.prog 4 #[.int .i64 x0, .agg #[.int .i64 x1_0, .int .i64 x1_1], .agg #[.int .i64 x2_0, .int .u8 (x2_1 : Int), .int .u8 (x2_2 : Int), .int .u8 (x2_3 : Int), .int .u8 (x2_4 : Int), .int .u8 (x2_5 : Int), .int .u8 (x2_6 : Int)], .int .i64 x3, v4] w fun e w' => e = .returned (.bool true) ∧ Below w.heap.size w w')
    (os : Os) (started : os.Started) (H : Type) (enc : TypeId × Value → H) :
    ReturnsInHanded {} Try.checked os 4 .any (Rows.fdbApartSpec.pre6 enc Try.prog Try.f4 Rows.fdbApartRow.domain false) (Rows.fdbApartSpec.post enc Try.prog Try.f4 false true false false) := by
  refine returnsInHanded_of_change (C := Try.checked) Try.own started (by kernel_rfl) Try.func4
    (ChangeSpec.witness6 (enc := enc) (C := Try.checked) false ⟨#[], #[.int .i64 0, .agg #[.int .i64 0, .int .i64 0], .agg #[.int .i64 0, .int .u8 0, .int .u8 0, .int .u8 0, .int .u8 0, .int .u8 0, .int .u8 0], .int .i64 0, .slice none 0 0], []⟩ 8 (by kernel_rfl) (by kernel_rfl) (by kernel_rfl) (by kernel_rfl)) ?_
  intro W base args ds gs before hval0 hW _ _
  have hval : ∀ (j : Nat) t v, Try.f4.params[j]? = some t → args[j]? = some v → Value.okWide Try.prog W .any base t v := hval0
  have hW' := hW
  obtain ⟨p, q, hA0, hV, rfl, _, _⟩ := hW
  have hA : DataW.TrodAll enc Try.prog W 0 (fun _ => true) true Try.f4.params.toList args.toList ds p := hA0
  rw [Try.params4] at hA hval
  obtain ⟨v0, v1, v2, v3, v4, d0, d1, d2, d3, d4, p0, p1, p2, p3, p4, rfl, rfl, rfl, h0, h1, h2, h3, h4⟩ := trodAll_five hA
  obtain ⟨rfl, rfl⟩ := trodVars_none hV
  obtain ⟨x0, rfl, rfl, rfl, w0⟩ := open_int Try.underlying3 (hval 0 3 v0 rfl rfl) h0
  obtain ⟨x1_0, x1_1, rfl, e1_0, e1_1⟩ := open_fdbVlan (hval 1 50 v1 rfl rfl) h1
  obtain ⟨x2_0, x2_1, x2_2, x2_3, x2_4, x2_5, x2_6, rfl, e2_0, e2_1, e2_2, e2_3, e2_4, e2_5, e2_6⟩ := open_fdbPlace (hval 2 42 v2 rfl rfl) h2
  obtain ⟨x3, rfl, rfl, rfl, w3⟩ := open_int Try.underlying3 (hval 3 3 v3 rfl rfl) h3
  obtain ⟨a4, len4, cap4, rfl⟩ := okWide_slice Try.underlying69 (hval 4 69 v4 rfl rfl)
  have hx4 := opens_int h4
  have hm4 := slice_len Try.underlying69 h4
  clear hA0 hval0
  simp only [List.append_nil, List.nil_append] at hW'
  have hlt1 : ∀ x ∈ p1, x.block < W.heap.size := fun x hx => by simpa using hW'.lt x (by simp [hx])
  have hlt2 : ∀ x ∈ p2, x.block < W.heap.size := fun x hx => by simpa using hW'.lt x (by simp [hx])
  have hlt4 : ∀ x ∈ p4, x.block < W.heap.size := fun x hx => by simpa using hW'.lt x (by simp [hx])
  refine (hlaw x0 x1_0 x1_1 x2_0 x2_1 x2_2 x2_3 x2_4 x2_5 x2_6 x3 _ _ W (in_of_wf w0) e1_0 e1_1 e2_0 e2_1 e2_2 e2_3 e2_4 e2_5 e2_6 (in_of_wf w3) hx4 hm4).mono fun e W' ⟨he, hw⟩ => ?_
  subst he
  exact ⟨_, rfl, _, _, _, [], _, [], hW', trodAll_mk1 (shut_bool Try.underlying4 true), trodAll_mk5 (shut_int Try.underlying3 w0) (Below.trod Try.laidOut (by kernel_rfl) (of_decide_eq_true (by kernel_rfl)) h1 hw hlt1) (Below.trod Try.laidOut (by kernel_rfl) (of_decide_eq_true (by kernel_rfl)) h2 hw hlt2) (shut_int Try.underlying3 w3) (Below.trod Try.laidOut (by kernel_rfl) (of_decide_eq_true (by kernel_rfl)) h4 hw hlt4), rfl, hw.frame _, fun h => by cases h⟩

theorem fdbApartM_of (hlaw : ∀ (x0 : Int) (x1_0 : Int) (x1_1 : Int) (x2_0 : Int) (x2_1 : Nat) (x2_2 : Nat) (x2_3 : Nat) (x2_4 : Nat) (x2_5 : Nat) (x2_6 : Nat) (x3 : Int) (v4 : Value) (n4 : Nat) (w : World), In64 x0 → In64 x1_0 → In64 x1_1 → In64 x2_0 → x2_1 < 256 → x2_2 < 256 → x2_3 < 256 → x2_4 < 256 → x2_5 < 256 → x2_6 < 256 → In64 x3 → SlArg 1 Okint w v4 n4 → n4 ≤ 9223372036854775807 → Calls Try.prog 4 #[.int .i64 x0, .agg #[.int .i64 x1_0, .int .i64 x1_1], .agg #[.int .i64 x2_0, .int .u8 (x2_1 : Int), .int .u8 (x2_2 : Int), .int .u8 (x2_3 : Int), .int .u8 (x2_4 : Int), .int .u8 (x2_5 : Int), .int .u8 (x2_6 : Int)], .int .i64 x3, v4] w fun e w' => e = .returned (.bool true) ∧ Below w.heap.size w w') : Rows.FdbApartSaid :=
  OpenClaim.holds_of_wide 4 Try.f4 rfl rfl rfl rfl rfl rfl rfl ⟨rfl, rfl, rfl, rfl, rfl⟩ rfl rfl rfl rfl rfl (by kernel_rfl) Try.func4 (by kernel_rfl)
    (of_decide_eq_true (by kernel_rfl)) (by unfold Func.isWrapper; rw [if_neg (of_decide_eq_false (by kernel_rfl))]; exact ⟨rfl, rfl⟩)
    (fun os started H enc _ => fdbApartM_lifted hlaw os started H enc)

end Go.Proofs.Ytkbodcgamfkegaa
