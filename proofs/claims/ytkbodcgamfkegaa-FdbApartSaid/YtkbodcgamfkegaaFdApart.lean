/- Package fdb: Out at a port that isn't there; SetVlan's errors, and where it takes away; Learn's other errors. -/
import Derived.Test.YtkbodcgamfkegaaFdLearn
namespace Go.Proofs.Ytkbodcgamfkegaa
open Go.RowKit Go.Joins Go.Maps Go.MapKept Go.ChangeMaps Go.WideMaps

section
variable {B m : Nat} {w : World} {b : TB} {s : TS}
set_option maxHeartbeats 1000000 in
theorem out_none (h : Tab B w b m s) (x : Int) (hx : ¬ (0 ≤ x ∧ x < (s.n : Int))) (p : Pl) :
    Calls Try.prog 11 #[.pointer (some ⟨b.t, 0, none⟩), .int .i64 x, PV p] w fun e w' => e = .returned (.tuple #[.int .i64 0, .int .i64 0]) ∧ Below w.heap.size w w' := by
  have H0 := Lib.hid (HB.new h p)
  have HP : Hid (∀ W, Tab B W b m s → Calls Try.prog 29 #[.pointer (some ⟨b.t, 0, none⟩), .int .i64 x] W fun e w' => e = .returned (.bool false) ∧ w' = W) := Lib.hid (fun W hW => by
    have k := hasPort_any hW x
    rw [decide_eq_false hx] at k
    exact k)
  clear h hx
  go_enter Try.func11, Try.ntmps11
  go_wp2_with (go_at_call 29; (with_reducible refine (HP.out _ H0.out.tab).mono ?_); rintro e w1 ⟨rfl, rfl⟩)
  go_ret2
  exact ⟨rfl, H0.out.bel⟩
def vlanBad (n : Nat) (x P U : Int) : Prop := x < 1 ∨ 4094 < x ∨ ¬ (0 ≤ P ∧ P < ((2 ^ n : Nat) : Int)) ∨ bits .andNot .i64 U P ≠ 0
set_option maxHeartbeats 2000000 in
theorem setVlan_bad (h : Tab B w b m s) (x P U : Int) (hb : vlanBad s.n x P U) :
    Calls Try.prog 17 #[.pointer (some ⟨b.t, 0, none⟩), .int .i64 x, .agg #[.int .i64 P, .int .i64 U]] w fun e w' => e = .returned (.int .i64 1) ∧ Below w.heap.size w w' := by
  obtain ⟨Z, hZ⟩ : ∃ Z : Obj, Z = .cells #[.int .i64 P, .int .i64 U] 50 := ⟨_, rfl⟩
  have HT := Lib.hid (h.below (bAl (bRef w) Z))
  have HB0 := Lib.hid (bAl (bRef w) Z)
  have q : (w.alloc Z).heap[w.heap.size]? = some Z := heap_alloc_one w Z
  rw [hZ] at HT HB0 q
  have q0 := cell_of_row _ _ 0 _ _ _ q
  have q1 := cell_of_row _ _ 1 _ _ _ q
  by_cases hv : x < 1 ∨ 4094 < x
  · have HV : Hid (∀ W, Calls Try.prog 27 #[.int .i64 x] W fun e w' => e = .returned (.bool false) ∧ w' = W) := Lib.hid (fun W => isVid_no x hv W)
    clear h hZ q hb hv
    go_enter Try.func17, Try.ntmps17
    go_wp2_with (go_at_call 27; (with_reducible refine (HV.out _).mono ?_); rintro e w1 ⟨rfl, rfl⟩)
    go_ret
    exact ⟨rfl, HB0.out⟩
  have HV : Hid (∀ W, Calls Try.prog 27 #[.int .i64 x] W fun e w' => e = .returned (.bool true) ∧ w' = W) := Lib.hid (fun W => isVid_yes x (by omega) (by omega) W)
  by_cases hs : 0 ≤ P ∧ P < ((2 ^ s.n : Nat) : Int)
  · have HS : Hid (∀ W, Tab B W b m s → Calls Try.prog 36 #[.pointer (some ⟨b.t, 0, none⟩), .int .i64 P] W fun e w' => e = .returned (.bool true) ∧ w' = W) := Lib.hid (fun W hW => by
      have k := isSet_any hW P
      rw [decide_eq_true hs] at k
      exact k)
    have hu : bits .andNot .i64 U P ≠ 0 := by
      unfold vlanBad at hb
      rcases hb with e | e | e | e
      · exact absurd (.inl e) hv
      · exact absurd (.inr e) hv
      · exact absurd hs e
      · exact e
    have d1 : (bits .andNot .i64 U P != 0) = true := by simpa using hu
    clear h hZ q hb hv hs hu
    go_enter Try.func17, Try.ntmps17
    go_wp2_with (first | (go_at_call 27; (with_reducible refine (HV.out _).mono ?_); rintro e w1 ⟨rfl, rfl⟩) | (go_at_call 36; (with_reducible refine (HS.out _ HT.out).mono ?_); rintro e w1 ⟨rfl, rfl⟩))
    go_ret
    exact ⟨rfl, HB0.out⟩
  · have HS : Hid (∀ W, Tab B W b m s → Calls Try.prog 36 #[.pointer (some ⟨b.t, 0, none⟩), .int .i64 P] W fun e w' => e = .returned (.bool false) ∧ w' = W) := Lib.hid (fun W hW => by
      have k := isSet_any hW P
      rw [decide_eq_false hs] at k
      exact k)
    clear h hZ q hb hv hs
    go_enter Try.func17, Try.ntmps17
    go_wp2_with (first | (go_at_call 27; (with_reducible refine (HV.out _).mono ?_); rintro e w1 ⟨rfl, rfl⟩) | (go_at_call 36; (with_reducible refine (HS.out _ HT.out).mono ?_); rintro e w1 ⟨rfl, rfl⟩))
    go_ret
    exact ⟨rfl, HB0.out⟩
set_option maxHeartbeats 2000000 in
theorem setVlan_del (h : Tab B w b m s) (x U : Int) (h0 : 1 ≤ x) (h1 : x ≤ 4094) (hU : bits .andNot .i64 U 0 = 0) :
    Calls Try.prog 17 #[.pointer (some ⟨b.t, 0, none⟩), .int .i64 x, .agg #[.int .i64 0, .int .i64 U]] w fun e w' => e = .returned (.int .i64 0) ∧ Tab B w' b m { s with V := delL s.V x } ∧ ButB b.v w w' := by
  have hx : In64 x := ⟨by omega, by omega⟩
  have HT := Lib.hid (h.below (bAl (bRef w) (.cells #[.int .i64 0, .int .i64 U] 50)))
  have HB0 := Lib.hid (bAl (bRef w) (.cells #[.int .i64 0, .int .i64 U] 50))
  have q := heap_alloc_one w (.cells #[.int .i64 0, .int .i64 U] 50)
  have HV : Hid (∀ W, Calls Try.prog 27 #[.int .i64 x] W fun e w' => e = .returned (.bool true) ∧ w' = W) := Lib.hid (fun W => isVid_yes x h0 h1 W)
  have HS : Hid (∀ W, Tab B W b m s → Calls Try.prog 36 #[.pointer (some ⟨b.t, 0, none⟩), .int .i64 0] W fun e w' => e = .returned (.bool true) ∧ w' = W) := Lib.hid (fun W hW => by
    have k := isSet_any hW 0
    have hp := Nat.two_pow_pos s.n
    rw [decide_eq_true (show (0 : Int) ≤ 0 ∧ 0 < ((2 ^ s.n : Nat) : Int) from ⟨by omega, by omega⟩)] at k
    exact k)
  have d1 : (bits .andNot .i64 U 0 != 0) = false := by rw [hU]; rfl
  obtain ⟨w2, hrun, hmap, hturn⟩ := HT.out.mv.del x hx 0
  have hrun2 : (Builtin.delete_ #[77, 3] 0 #[.map (some b.v), .int .i64 x]).run Try.prog (w.alloc (.cells #[.int .i64 0, .int .i64 U] 50)) = .ok (.tuple #[]) w2 := hrun
  have HF := Lib.hid (HT.out.setV hturn (Nat.le_refl m) hmap)
  have HB2 : Hid (ButB b.v w w2) := Lib.hid ((ButB.of_below HB0.out).trans (ButB.turned hturn))
  obtain ⟨c0, c1, c2, c3, c4⟩ := HT.out.cells
  have q0 := cell_of_row _ _ 0 _ _ _ q
  have q1 := cell_of_row _ _ 1 _ _ _ q
  clear h hrun hmap hturn q hx h0 h1 hU
  go_enter Try.func17, Try.ntmps17
  go_wp2_with (first | (go_at_call 27; (with_reducible refine (HV.out _).mono ?_); rintro e w1 ⟨rfl, rfl⟩) | (go_at_call 36; (with_reducible refine (HS.out _ HT.out).mono ?_); rintro e w1 ⟨rfl, rfl⟩))
  go_ret
  exact ⟨rfl, HF.out, HB2.out⟩
theorem group_odd : ∀ n : Nat, n < 256 → n % 2 ≠ 0 → (bits BinOp.and .u8 (n : Int) 1 == 1) = true := of_decide_eq_true (by kernel_rfl)
theorem group_yes (p : Mc) (h : p.y0 % 2 ≠ 0) (h8 : p.y0 < 256) (w : World) :
    Calls Try.prog 34 #[.agg #[.int .u8 (p.y0 : Int), .int .u8 (p.y1 : Int), .int .u8 (p.y2 : Int), .int .u8 (p.y3 : Int), .int .u8 (p.y4 : Int), .int .u8 (p.y5 : Int)]] w fun e w' => e = .returned (.bool true) ∧ Below w.heap.size w w' := by
  go_enter Try.func34, Try.ntmps34
  go_wp2_with fail
  go_ret
  exact ⟨by show Ending.returned (Value.bool (bits BinOp.and .u8 (p.y0 : Int) 1 == 1)) = _; rw [group_odd _ h8 h], bAl (bRef w) _⟩
set_option maxHeartbeats 4000000 in
theorem learn_port (h : Tab B w b m s) (p : Pl) (h0 : 1 ≤ p.1) (h1 : p.1 ≤ 4094) (x : Int) (hx : ¬ (0 ≤ x ∧ x < (s.n : Int))) (now : Int) :
    Calls Try.prog 15 #[.pointer (some ⟨b.t, 0, none⟩), PV p, .int .i64 x, .int .i64 now] w fun e w' => e = .returned (.int .i64 40) ∧ Below w.heap.size w w' := by
  have H0 := Lib.hid (HB.new h p)
  have HP : Hid (∀ W, Tab B W b m s → Calls Try.prog 29 #[.pointer (some ⟨b.t, 0, none⟩), .int .i64 x] W fun e w' => e = .returned (.bool false) ∧ w' = W) := Lib.hid (fun W hW => by
    have k := hasPort_any hW x
    rw [decide_eq_false hx] at k
    exact k)
  have HV : Hid (∀ W, Calls Try.prog 27 #[.int .i64 p.1] W fun e w' => e = .returned (.bool true) ∧ w' = W) := Lib.hid (fun W => isVid_yes p.1 h0 h1 W)
  clear h h0 h1 hx
  go_enter Try.func15, Try.ntmps15
  go_wp2_with fail
  obtain ⟨W, hW⟩ : ∃ W, w.alloc (.cells #[.int .i64 p.1, .int .u8 (p.2.y0 : Int), .int .u8 (p.2.y1 : Int), .int .u8 (p.2.y2 : Int), .int .u8 (p.2.y3 : Int), .int .u8 (p.2.y4 : Int), .int .u8 (p.2.y5 : Int)] 42) = W := ⟨_, rfl⟩
  rw [hW] at H0 ⊢
  clear hW
  obtain ⟨c0, c1, c2, c3, c4, k0, k1, k2, k3, k4, k5, k6, -⟩ := H0.out.all
  go_wp2_with (first
    | (go_at_call 27; (with_reducible refine (HV.out _).mono ?_); rintro e w1 ⟨rfl, rfl⟩)
    | (go_at_call 29; (with_reducible refine (HP.out _ H0.out.tab).mono ?_); rintro e w2 ⟨rfl, rfl⟩))
  go_ret
  exact ⟨rfl, H0.out.bel⟩
set_option maxHeartbeats 4000000 in
theorem learn_kind (h : Tab B w b m s) (p : Pl) (hp : p.Good) (h0 : 1 ≤ p.1) (h1 : p.1 ≤ 4094) (a : Nat) (ha : a < s.n) (now : Int) (hg : p.2.y0 % 2 ≠ 0) :
    Calls Try.prog 15 #[.pointer (some ⟨b.t, 0, none⟩), PV p, .int .i64 (a : Int), .int .i64 now] w fun e w' => (∃ g, e = .returned (.int .i64 g)) ∧ Below w.heap.size w w' := by
  have H0 := Lib.hid (HB.new h p)
  have HP : Hid (∀ W, Tab B W b m s → Calls Try.prog 29 #[.pointer (some ⟨b.t, 0, none⟩), .int .i64 (a : Int)] W fun e w' => e = .returned (.bool true) ∧ w' = W) := Lib.hid (fun W hW => by
    have k := hasPort_any hW (a : Int)
    rw [decide_eq_true (show 0 ≤ (a : Int) ∧ (a : Int) < (s.n : Int) from ⟨by omega, by omega⟩)] at k
    exact k)
  have HV : Hid (∀ W, Calls Try.prog 27 #[.int .i64 p.1] W fun e w' => e = .returned (.bool true) ∧ w' = W) := Lib.hid (fun W => isVid_yes p.1 h0 h1 W)
  have HG : Hid (∀ W, Calls Try.prog 34 #[.agg #[.int .u8 (p.2.y0 : Int), .int .u8 (p.2.y1 : Int), .int .u8 (p.2.y2 : Int), .int .u8 (p.2.y3 : Int), .int .u8 (p.2.y4 : Int), .int .u8 (p.2.y5 : Int)]] W fun e w' => e = .returned (.bool true) ∧ Below W.heap.size W w') := Lib.hid (fun W => group_yes p.2 hg hp.2.g0 W)
  clear h h0 h1 ha hp hg
  go_enter Try.func15, Try.ntmps15
  go_wp2_with fail
  obtain ⟨W, hW⟩ : ∃ W, w.alloc (.cells #[.int .i64 p.1, .int .u8 (p.2.y0 : Int), .int .u8 (p.2.y1 : Int), .int .u8 (p.2.y2 : Int), .int .u8 (p.2.y3 : Int), .int .u8 (p.2.y4 : Int), .int .u8 (p.2.y5 : Int)] 42) = W := ⟨_, rfl⟩
  rw [hW] at H0 ⊢
  clear hW
  obtain ⟨c0, c1, c2, c3, c4, k0, k1, k2, k3, k4, k5, k6, -⟩ := H0.out.all
  go_wp2_with (first
    | (go_at_call 27; (with_reducible refine (HV.out _).mono ?_); rintro e w1 ⟨rfl, rfl⟩)
    | (go_at_call 29; (with_reducible refine (HP.out _ H0.out.tab).mono ?_); rintro e w2 ⟨rfl, rfl⟩)
    | (go_at_call 34; (with_reducible refine (HG.out _).mono ?_); rintro e w3 ⟨rfl, hb⟩; have H3 := Lib.hid (H0.out.below hb); clear hb))
  go_ret
  exact ⟨⟨_, rfl⟩, H3.out.bel⟩
/-- Whatever Learn answers: what it leaves. -/
theorem learn_all (h : Tab B w b m s) (hm : m < 1000000) (p : Pl) (hp : p.Good) (h0 : 1 ≤ p.1) (h1 : p.1 ≤ 4094) (x now : Int) (hS : (lookL s.S p).getD 0 = 0) (hE : OkE s) (hr : ((s.S.length + s.E.length : Nat) : Int) < s.room) :
    Calls Try.prog 15 #[.pointer (some ⟨b.t, 0, none⟩), PV p, .int .i64 x, .int .i64 now] w fun e w' => (∃ g, e = .returned (.int .i64 g)) ∧ ∃ E', (E' = s.E ∨ (0 ≤ x ∧ x < (s.n : Int) ∧ E' = putL s.E p (x, now))) ∧ Tab B w' b (m + 1) { s with E := E' } ∧ ButB b.e w w' := by
  by_cases hx : 0 ≤ x ∧ x < (s.n : Int)
  · obtain ⟨a, rfl⟩ : ∃ a : Nat, x = (a : Int) := ⟨x.toNat, by omega⟩
    by_cases hg : p.2.y0 % 2 = 0
    · exact (learn_ok h hm p hp h0 h1 a (by omega) now hg hS hE (.inr hr)).mono fun e w' ⟨e1, e2, e3⟩ => ⟨⟨_, e1⟩, _, .inr ⟨hx.1, hx.2, rfl⟩, e2, e3⟩
    · exact (learn_kind h p hp h0 h1 a (by omega) now hg).mono fun e w' ⟨e1, e2⟩ => ⟨e1, _, .inl rfl, ⟨(h.below e2).row, (h.below e2).prt, (h.below e2).mv.mono (Nat.le_succ m), (h.below e2).ms.mono (Nat.le_succ m), (h.below e2).me.mono (Nat.le_succ m), h.n0, h.n8, h.bt, h.bp, h.bv, h.bs, h.be, h.vs, h.ve, h.se⟩, .of_below e2⟩
  · exact (learn_port h p h0 h1 x hx now).mono fun e w' ⟨e1, e2⟩ => ⟨⟨_, e1⟩, _, .inl rfl, ⟨(h.below e2).row, (h.below e2).prt, (h.below e2).mv.mono (Nat.le_succ m), (h.below e2).ms.mono (Nat.le_succ m), (h.below e2).me.mono (Nat.le_succ m), h.n0, h.n8, h.bt, h.bp, h.bv, h.bs, h.be, h.vs, h.ve, h.se⟩, .of_below e2⟩
end

end Go.Proofs.Ytkbodcgamfkegaa
