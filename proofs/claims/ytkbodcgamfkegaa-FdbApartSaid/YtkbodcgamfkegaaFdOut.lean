/- Package fdb: Out. -/
import Derived.Test.YtkbodcgamfkegaaFdVlan
namespace Go.Proofs.Ytkbodcgamfkegaa
open Go.RowKit Go.Joins Go.Maps Go.MapKept Go.ChangeMaps Go.WideMaps

section
variable {B m : Nat} {w : World} {b : TB} {s : TS}
def vlanV (s : TS) (x : Int) : Int × Int := (lookL s.V x).getD (0, 0)
/-- The ports. -/
def outP (s : TS) (a : Nat) (p : Pl) : Int := if whereV s p = 0 then bits .andNot .i64 (vlanV s p.1).1 ((2 ^ a : Nat) : Int) else bits .and .i64 (bits .andNot .i64 (vlanV s p.1).1 ((2 ^ a : Nat) : Int)) (whereV s p)
set_option maxHeartbeats 4000000 in
theorem out_any (h : Tab B w b m s) (a : Nat) (ha : a < s.n) (p : Pl) (hp : p.Good) (hE : OkE s) :
    Calls Try.prog 11 #[.pointer (some ⟨b.t, 0, none⟩), .int .i64 (a : Int), PV p] w fun e w' => e = .returned (.tuple #[.int .i64 (outP s a p), .int .i64 (bits .and .i64 (outP s a p) (vlanV s p.1).2)]) ∧ Below w.heap.size w w' := by
  have H0 := Lib.hid (HB.new h p)
  have HP : Hid (∀ W, Tab B W b m s → Calls Try.prog 29 #[.pointer (some ⟨b.t, 0, none⟩), .int .i64 (a : Int)] W fun e w' => e = .returned (.bool true) ∧ w' = W) := Lib.hid (fun W hW => by
    have k := hasPort_any hW (a : Int)
    rw [decide_eq_true (show 0 ≤ (a : Int) ∧ (a : Int) < (s.n : Int) from ⟨by omega, by omega⟩)] at k
    exact k)
  obtain ⟨u, hu⟩ : ∃ u, whereV s p = u := ⟨_, rfl⟩
  have HW : Hid (∀ W, Tab B W b m s → Calls Try.prog 30 #[.pointer (some ⟨b.t, 0, none⟩), PV p] W fun e w' => e = .returned (.int .i64 u) ∧ Below W.heap.size W w') := Lib.hid (fun W hW => by have k := where_any hW p hp hE.e; rw [hu] at k; exact k)
  obtain ⟨res, hres⟩ : ∃ res, outP s a p = res := ⟨_, rfl⟩
  have HR := Lib.hid hres
  obtain ⟨P, U, hV⟩ : ∃ P U, vlanV s p.1 = (P, U) := ⟨_, _, rfl⟩
  rw [hres, hV]
  have HR2 := HR.out
  unfold outP at HR2
  rw [hu, hV] at HR2
  have HRR : Hid ((if u = 0 then bits .andNot .i64 P ((2 ^ a : Nat) : Int) else bits .and .i64 (bits .andNot .i64 P ((2 ^ a : Nat) : Int)) u) = res) := Lib.hid HR2
  clear HR HR2
  have hx : In64 p.1 := hp.1
  have hlook : ∀ W, Tab B W b m s → (Instr.lookup 77 (.map (some b.v)) (.int .i64 p.1) false).run Try.prog W = .ok (.agg #[.int .i64 P, .int .i64 U]) W := fun W hW => by
    have k := hW.mv.look p.1 hx
    have e : (lookL s.V p.1).getD MV.zero = (P, U) := hV
    rw [e] at k
    exact k
  have HLK := Lib.hid hlook
  have a8 : a = 0 ∨ a = 1 ∨ a = 2 ∨ a = 3 ∨ a = 4 ∨ a = 5 ∨ a = 6 ∨ a = 7 := by have := h.n8; omega
  have HA8 := Lib.hid a8
  clear hres hV hu a8 h ha hE hlook hx
  go_enter Try.func11, Try.ntmps11
  go_wp2_with (go_at_call 29; (with_reducible refine (HP.out _ H0.out.tab).mono ?_); rintro e w1 ⟨rfl, rfl⟩)
  obtain ⟨W, hW⟩ : ∃ W, w.alloc (.cells #[.int .i64 p.1, .int .u8 (p.2.y0 : Int), .int .u8 (p.2.y1 : Int), .int .u8 (p.2.y2 : Int), .int .u8 (p.2.y3 : Int), .int .u8 (p.2.y4 : Int), .int .u8 (p.2.y5 : Int)] 42) = W := ⟨_, rfl⟩
  rw [hW] at H0 ⊢
  clear hW
  obtain ⟨c0, c1, c2, c3, c4, k0, k1, k2, k3, k4, k5, k6, -⟩ := H0.out.all
  have l1 := HLK.out W.drew H0.out.drew.tab
  have l2 := HLK.out (W.alloc (.cells #[.int .i64 0, .int .i64 0] 50)).drew (H0.out.alloc _).drew.tab
  obtain ⟨c0', c1', c2', c3', c4', k0', k1', k2', k3', k4', k5', k6', -⟩ := (H0.out.alloc (.cells #[.int .i64 0, .int .i64 0] 50)).all
  go_region
  all_goals
    have H1 := Lib.hid (H0.out.alloc (.cells #[.int .i64 P, .int .i64 U] 50)).drew
    have hv : (W.alloc (.cells #[.int .i64 P, .int .i64 U] 50)).drew.heap[W.heap.size]? = some (.cells #[.int .i64 P, .int .i64 U] 50) := heap_alloc_one W _
    obtain ⟨X, hX⟩ : ∃ X, (W.alloc (.cells #[.int .i64 P, .int .i64 U] 50)).drew = X := ⟨_, rfl⟩
    rw [hX] at H1 hv ⊢
    obtain ⟨g, hg⟩ : ∃ g, W.heap.size = g := ⟨_, rfl⟩
    rw [hg] at hv ⊢
    clear hX hg l1 l2 c0 c1 c2 c3 c4 k0 k1 k2 k3 k4 k5 k6 c0' c1' c2' c3' c4' k0' k1' k2' k3' k4' k5' k6'
    obtain ⟨c0, c1, c2, c3, c4, k0, k1, k2, k3, k4, k5, k6, -⟩ := H1.out.all
    have v0 : X.cell? ⟨g, 0, none⟩ = some (.int .i64 P) := cell_of_row _ _ _ _ _ _ hv
    have v1 : X.cell? ⟨g, 1, none⟩ = some (.int .i64 U) := cell_of_row _ _ _ _ _ _ hv
    have HVB := Lib.hid hv
    clear hv
    have ha8 := HA8.out
    by_cases h0 : u = 0
    · subst h0
      have HRR2 := Lib.hid HRR.out
      rw [if_pos rfl] at HRR2
      clear HRR
      rcases ha8 with rfl | rfl | rfl | rfl | rfl | rfl | rfl | rfl
      all_goals
        go_wp2_with fail
        go_quiet (fail)
        go_wp2_with (go_at_call 30; (with_reducible refine (HW.out _ (H1.out.drewN _).tab).mono ?_); rintro e w2 ⟨rfl, hb⟩; have HB2 := Lib.hid (bTr (H1.out.drewN _).bel hb); have hv2 := (hb.block _ (lt_of_heap HVB.out)).trans (((bDr (bRef X) _).block _ (lt_of_heap HVB.out)).trans HVB.out); have v0' : w2.cell? ⟨g, 0, none⟩ = some (.int .i64 P) := cell_of_row _ _ _ _ _ _ hv2; have v1' : w2.cell? ⟨g, 1, none⟩ = some (.int .i64 U) := cell_of_row _ _ _ _ _ _ hv2; clear hb hv2)
        go_quiet (fail)
        go_wp2_with fail
        go_ret2
        exact ⟨by rw [← HRR2.out]; rfl, bDr HB2.out _⟩
    · have d : (u != 0) = true := by rw [bne_iff_ne]; exact h0
      have HRR2 := Lib.hid HRR.out
      rw [if_neg h0] at HRR2
      clear HRR h0
      rcases ha8 with rfl | rfl | rfl | rfl | rfl | rfl | rfl | rfl
      all_goals
        go_wp2_with fail
        go_quiet (fail)
        go_wp2_with (go_at_call 30; (with_reducible refine (HW.out _ (H1.out.drewN _).tab).mono ?_); rintro e w2 ⟨rfl, hb⟩; have HB2 := Lib.hid (bTr (H1.out.drewN _).bel hb); have hv2 := (hb.block _ (lt_of_heap HVB.out)).trans (((bDr (bRef X) _).block _ (lt_of_heap HVB.out)).trans HVB.out); have v0' : w2.cell? ⟨g, 0, none⟩ = some (.int .i64 P) := cell_of_row _ _ _ _ _ _ hv2; have v1' : w2.cell? ⟨g, 1, none⟩ = some (.int .i64 U) := cell_of_row _ _ _ _ _ _ hv2; clear hb hv2)
        go_quiet (fail)
        go_wp2_with fail
        go_ret2
        exact ⟨by rw [← HRR2.out]; rfl, bDr HB2.out _⟩
end

end Go.Proofs.Ytkbodcgamfkegaa
