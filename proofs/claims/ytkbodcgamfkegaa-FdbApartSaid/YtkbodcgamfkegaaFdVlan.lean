/- Package fdb: SetVlan. -/
import Derived.Test.YtkbodcgamfkegaaFdCalls
namespace Go.Proofs.Ytkbodcgamfkegaa
open Go.RowKit Go.Joins Go.Maps Go.MapKept Go.ChangeMaps Go.WideMaps

section
variable {B m : Nat} {w : World} {b : TB} {s : TS}
set_option maxHeartbeats 1000000 in
theorem setVlan_ok (h : Tab B w b m s) (hm : m < 1000000) (x P U : Int) (h0 : 1 ≤ x) (h1 : x ≤ 4094) (hP0 : 0 < P) (hP1 : P < ((2 ^ s.n : Nat) : Int)) (hU : bits .andNot .i64 U P = 0) :
    Calls Try.prog 17 #[.pointer (some ⟨b.t, 0, none⟩), .int .i64 x, .agg #[.int .i64 P, .int .i64 U]] w fun e w' => e = .returned (.int .i64 0) ∧ Tab B w' b (m + 1) { s with V := putL s.V x (P, U) } ∧ ButB b.v w w' := by
  obtain ⟨Z, hZ⟩ : ∃ Z : Obj, Z = .cells #[.int .i64 P, .int .i64 U] 50 := ⟨_, rfl⟩
  have HT := Lib.hid (h.below (bAl (bRef w) Z))
  have hx : In64 x := ⟨by omega, by omega⟩
  have HV : Hid (∀ W, Calls Try.prog 27 #[.int .i64 x] W fun e w' => e = .returned (.bool true) ∧ w' = W) := Lib.hid (fun W => isVid_yes x h0 h1 W)
  have HS : Hid (∀ W, Tab B W b m s → Calls Try.prog 36 #[.pointer (some ⟨b.t, 0, none⟩), .int .i64 P] W fun e w' => e = .returned (.bool true) ∧ w' = W) := Lib.hid (fun W hW => by
    have k := isSet_any hW P
    rw [decide_eq_true (show 0 ≤ P ∧ P < ((2 ^ s.n : Nat) : Int) from ⟨by omega, hP1⟩)] at k
    exact k)
  have d1 : (P == 0) = false := by rw [beq_eq_false_iff_ne]; omega
  have HB0 := Lib.hid (bAl (bRef w) Z)
  clear hP0 hP1 h0 h1 h
  go_enter Try.func17, Try.ntmps17
  go_wp2_with fail
  obtain ⟨W, hW⟩ : ∃ W, w.alloc Z = W := ⟨_, rfl⟩
  have q : W.heap[w.heap.size]? = some Z := by rw [← hW]; exact heap_alloc_one w Z
  rw [hW] at HT HB0
  rw [hZ] at hW q
  rw [hW]
  have q0 : W.cell? ⟨w.heap.size, 0, none⟩ = some (.int .i64 P) := cell_of_row _ _ _ _ _ _ q
  have q1 : W.cell? ⟨w.heap.size, 1, none⟩ = some (.int .i64 U) := cell_of_row _ _ _ _ _ _ q
  obtain ⟨c0, c1, c2, c3, c4⟩ := HT.out.cells
  clear hW hZ q
  go_wp2_with (first | (go_at_call 27; (with_reducible refine (HV.out _).mono ?_); rintro e w1 ⟨rfl, rfl⟩) | (go_at_call 36; (with_reducible refine (HS.out _ HT.out).mono ?_); rintro e w1 ⟨rfl, rfl⟩))
  have HTd : Tab B w1.drew b m s := HT.out.below (bDr (bRef w1) 1)
  obtain ⟨w2, hrun, hmap, hturn⟩ := HTd.mv.put x hx (P, U) (by unfold maxLen; omega)
  have hrun2 : (Instr.mapUpdate 77 (.map (some b.v)) (.int .i64 x) (.agg #[.int .i64 P, .int .i64 U])).run Try.prog w1.drew = .ok () w2 := hrun
  have HF := Lib.hid (HTd.setV hturn (Nat.le_succ m) hmap)
  have HB2 : Hid (ButB b.v w w2) := Lib.hid ((ButB.of_below (bTr HB0.out (bDr (bRef w1) 1))).trans (ButB.turned hturn))
  clear hrun hmap hturn HTd
  go_region
  all_goals
    go_wp2_with fail
    go_ret
    exact ⟨rfl, HF.out, HB2.out⟩
end

end Go.Proofs.Ytkbodcgamfkegaa
