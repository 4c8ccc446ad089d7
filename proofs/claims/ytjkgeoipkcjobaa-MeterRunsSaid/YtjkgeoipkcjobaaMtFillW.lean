/- Package meter: fill's walk. -/
import Derived.Test.YtjkgeoipkcjobaaMtFill
namespace Go.Proofs.Ytjkgeoipkcjobaa
open Go.RowKit Go.Joins

set_option maxHeartbeats 4000000 in
theorem fill_walk {b i : Nat} {w : World} {cs : Array Value} {t : TypeId} {p : Int} (hb : w.heap[b]? = some (.cells cs t (0, 0))) (hp : cs[i]? = some (.int .i64 p)) (most hi lo F sh sl lh ll er : Int)
    (hw1 : IntKind.u64.wrap (IntKind.u64.wrap most * 1000000000) = F) (hw2 : IntKind.u64.wrap p = p)
    (HA : ∀ W, Calls Try.prog 36 #[.agg #[.int .u64 hi, .int .u64 lo], .agg #[.int .u64 0, .int .u64 p]] W fun e w' => e = .returned (.tuple #[.agg #[.int .u64 sh, .int .u64 sl], .int .i64 0]) ∧ Below W.heap.size W w')
    (HU : ∀ W, Calls Try.prog 37 #[.agg #[.int .u64 sh, .int .u64 sl], .agg #[.int .u64 0, .int .u64 F]] W fun e w' => e = .returned (.tuple #[.agg #[.int .u64 lh, .int .u64 ll], .int .i64 er]) ∧ Below W.heap.size W w') :
    Calls Try.prog 29 #[.pointer (some ⟨b, i, none⟩), .agg #[.int .u64 hi, .int .u64 lo], .int .i64 most] w fun e w' =>
      (er ≠ 0 → e = .returned (.agg #[.int .u64 0, .int .u64 0]) ∧ w'.heap[b]? = some (.cells (cs.setIfInBounds i (.int .i64 (wrap64 sl))) t (0, 0)) ∧ ButB b w w') ∧
      (er = 0 → e = .returned (.agg #[.int .u64 lh, .int .u64 ll]) ∧ w'.heap[b]? = some (.cells (cs.setIfInBounds i (.int .i64 (wrap64 F))) t (0, 0)) ∧ ButB b w w') := by
  have hc : w.cell? ⟨b, i, none⟩ = some (.int .i64 p) := (cell_of_row _ _ _ _ _ _ hb).trans hp
  have HA := Lib.hid HA
  have HU := Lib.hid HU
  have hlt2 := lt_of_heap hb
  have HB := Lib.hid hb
  have H0 := FB.start (.int .u64 hi) (.int .u64 lo) 66 66 hlt2 hc
  have hne : b ≠ w.heap.size + 1 := by omega
  clear hp
  go_enter Try.func29, Try.ntmps29
  go_wp2_with (go_at_call 35; (with_reducible refine (wOf _ _).mono ?_); rintro e w1 ⟨rfl, hb1⟩; have H1 := (H0.below hb1).new2 (.int .u64 0) (.int .u64 F) 66; clear hb1)
  obtain ⟨l1, x1, y1, q1, u1, v1, m1, p1, b1, -⟩ := id H1
  obtain ⟨l1', x1', y1', q1', u1', v1', m1', p1', b1', -⟩ := id (H1.alloc (.cells #[.int .u64 0, .int .u64 0] 66))
  go_cut [8, 9] (fun s8 s9 wx => s9 = .int .i64 0 ∧ FillMid w1.heap.size (.int .u64 0) (.int .u64 F) (.int .u64 sh) (.int .u64 sl) b i p w s8 wx)
  case first =>
    go_region_with (first
      | (go_at_call 35; (with_reducible refine (wOf _ _).mono ?_); rintro e w4 ⟨rfl, hb4⟩; (first | have H4 := H1.drew.below hb4 | (have H4 := ((H1.alloc _).drew).below hb4; have N4 : NB (w1.heap.size + 1) w4 := by {have h := (NB.new _ _).drew.below hb4; simpa using h}; obtain ⟨nl4, nx4, ny4, nf4, ng4⟩ := id N4)); obtain ⟨l4, x4, y4, q4, u4, v4, m4, p4, b4, -⟩ := id H4; obtain ⟨l4', x4', y4', q4', u4', v4', m4', p4', b4', -⟩ := id (H4.alloc (.cells #[.int .u64 0, .int .u64 0] 66)))
      | (go_at_call 36; (with_reducible refine (HA.out _).mono ?_); rintro e w5 ⟨rfl, hb5⟩; (first | (have N5 := N4.below hb5; obtain ⟨nl5, nx5, ny5, nf5, ng5⟩ := id N5; have H5 := H4.below hb5) | have H5 := H4.below hb5 | (have H5 := (H4.alloc _).below hb5; have N5 := (NB.new _ _).below hb5; obtain ⟨nl5, nx5, ny5, nf5, ng5⟩ := id N5)); clear hb5))
    all_goals (go_wp2_with fail; go_meet)
    all_goals (refine ⟨rfl, ?_⟩; clear HA HU HB; first | exact mid_new H5 _ | (refine mid_set H5 N5 ?_ ?_ ?_ ?_ <;> (have s0 := H1.r.lt; have s1 := H1.lt'; have s2 := H4.r.lt; have s3 := H4.lt'; have s4 := H4.lp; have s5 := H1.lp; have s6 := H1.lt; simp only [World.size_alloc] at s0 s1 s5 s6; omega)))
  case rest =>
    obtain ⟨rfl, g, rfl, H6⟩ := hcut
    obtain ⟨l6, x6, y6, q6, u6, v6, m6, p6, b6, -⟩ := id H6
    go_wp2_with (go_at_call 37; (with_reducible refine (HU.out _).mono ?_); rintro e w7 ⟨rfl, hb7⟩; have H7 := H6.below hb7; obtain ⟨l7, x7, y7, q7, u7, v7, m7, p7, b7, rl7, rx7, ry7, rf7, rg7⟩ := id H7; have fr7 := frozen_of_row w7 b i _ _ ((b7.block b hlt2).trans HB.out))
    · obtain ⟨E1, E2, E3, E4⟩ := fill_end H7 HB.out (.int .i64 (wrap64 sl)) (.int .u64 0) (.int .u64 0) (.cells #[.int .u64 lh, .int .u64 ll] 66) _ rfl
      have her : er ≠ 0 := by rename_i h; simpa using h
      refine bodyPost_ret (v := .agg #[.int .u64 0, .int .u64 0]) (by simp [results, Try.results29, go_sem, E1, E2]) rfl ?_
      exact ⟨fun _ => ⟨rfl, E3, E4⟩, fun h => absurd h her⟩
    · obtain ⟨E1, E2, E3, E4⟩ := fill_end H7 HB.out (.int .i64 (wrap64 F)) (.int .u64 lh) (.int .u64 ll) (.cells #[.int .u64 lh, .int .u64 ll] 66) _ rfl
      have her : er = 0 := by rename_i h; simpa using h
      refine bodyPost_ret (v := .agg #[.int .u64 lh, .int .u64 ll]) (by simp [results, Try.results29, go_sem, E1, E2]) rfl ?_
      exact ⟨fun h => absurd her h, fun _ => ⟨rfl, E3, E4⟩⟩

end Go.Proofs.Ytjkgeoipkcjobaa
