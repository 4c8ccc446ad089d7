/- Package meter: fill in plain numbers; take. -/
import Derived.Test.YtjkgeoipkcjobaaMtFillW
namespace Go.Proofs.Ytjkgeoipkcjobaa
open Go.RowKit Go.Joins

theorem fill_any {b i : Nat} {w : World} {cs : Array Value} {t : TypeId} {p : Int} (hb : w.heap[b]? = some (.cells cs t (0, 0))) (hp : cs[i]? = some (.int .i64 p)) (more most hi lo : Int) (hp0 : 0 ≤ p) (hp1 : p ≤ most * 1000000000) (hm0 : 0 ≤ more) (hm1 : more ≤ 1237940039285380274899124224) (hM0 : 0 ≤ most) (hM1 : most ≤ 8589934592)
    (e1 : hi = more / 18446744073709551616) (e2 : lo = more % 18446744073709551616) :
    Calls Try.prog 29 #[.pointer (some ⟨b, i, none⟩), .agg #[.int .u64 hi, .int .u64 lo], .int .i64 most] w fun e w' =>
      e = .returned (.agg #[.int .u64 (fillL p more most / 18446744073709551616), .int .u64 (fillL p more most % 18446744073709551616)]) ∧ w'.heap[b]? = some (.cells (cs.setIfInBounds i (.int .i64 (fillP p more most))) t (0, 0)) ∧ ButB b w w' := by
  obtain ⟨F, hF⟩ : ∃ F, most * 1000000000 = F := ⟨_, rfl⟩
  have hw1 : IntKind.u64.wrap (IntKind.u64.wrap most * 1000000000) = F := by rw [IntKind.wrap_u64, IntKind.wrap_u64]; omega
  have hw2 : IntKind.u64.wrap p = p := by rw [IntKind.wrap_u64]; omega
  have HA := uAdd0 more p _ _ hi lo hm0 (by omega) hp0 (by omega) (by omega) e1 e2 rfl rfl
  unfold fillL fillP
  rw [hF]
  by_cases hlt : p + more < F
  · rw [if_pos hlt, if_pos hlt]
    have HU := uSub0_under (more + p) F _ _ (by omega) (by omega) (by omega) (by omega) rfl rfl
    refine (fill_walk hb hp most hi lo F _ _ 0 0 10 hw1 hw2 HA HU).mono ?_
    rintro e w' ⟨h1, h2⟩
    obtain ⟨rfl, h3, h4⟩ := h1 (by omega)
    rw [show wrap64 ((more + p) % 18446744073709551616) = p + more by unfold wrap64; omega] at h3
    exact ⟨rfl, h3, h4⟩
  · rw [if_neg hlt, if_neg hlt]
    have HU := uSub0_ok (more + p) F _ _ _ _ (by omega) (by omega) (by omega) (by omega) (by omega) rfl rfl rfl rfl
    refine (fill_walk hb hp most hi lo F _ _ _ _ 0 hw1 hw2 HA HU).mono ?_
    rintro e w' ⟨h1, h2⟩
    obtain ⟨rfl, h3, h4⟩ := h2 rfl
    rw [show wrap64 F = F by unfold wrap64; omega] at h3
    refine ⟨?_, h3, h4⟩
    rw [show more + p - F = p + more - F by omega]

/-- Take. -/
theorem take_yes {b i : Nat} {w : World} {cs : Array Value} {t : TypeId} {p : Int} (hb : w.heap[b]? = some (.cells cs t (0, 0))) (hp : cs[i]? = some (.int .i64 p)) (need : Int) (h0 : 0 ≤ need) (h1 : need ≤ p) (h2 : p ≤ 9000000000000000000) :
    Calls Try.prog 31 #[.pointer (some ⟨b, i, none⟩), .int .i64 need] w fun e w' => e = .returned (.bool true) ∧ w'.heap[b]? = some (.cells (cs.setIfInBounds i (.int .i64 (p - need))) t (0, 0)) ∧ ButB b w w' := by
  have hc : w.cell? ⟨b, i, none⟩ = some (.int .i64 p) := (cell_of_row _ _ _ _ _ _ hb).trans hp
  have hf := frozen_of_row w b i _ _ hb
  have d : decide (p < need) = false := decide_eq_false (by omega)
  have HB := Lib.hid hb
  go_enter Try.func31, Try.ntmps31
  go_wp2_with fail
  go_ret
  exact ⟨rfl, heap_setCell_same w b i cs t _ HB.out, set_but HB.out i _⟩
theorem take_no {b i : Nat} {w : World} {p : Int} (hc : w.cell? ⟨b, i, none⟩ = some (.int .i64 p)) (need : Int) (h1 : p < need) :
    Calls Try.prog 31 #[.pointer (some ⟨b, i, none⟩), .int .i64 need] w fun e w' => e = .returned (.bool false) ∧ Below w.heap.size w w' := by
  have d : decide (p < need) = true := decide_eq_true (by omega)
  go_enter Try.func31, Try.ntmps31
  go_wp2_with fail
  go_ret
  exact ⟨rfl, bRef w⟩

end Go.Proofs.Ytjkgeoipkcjobaa
