/- Package fdb: Learn. -/
import Derived.Test.YtkbodcgamfkegaaFdOut
namespace Go.Proofs.Ytkbodcgamfkegaa
open Go.RowKit Go.Joins Go.Maps Go.MapKept Go.ChangeMaps Go.WideMaps

theorem group_all : ∀ n : Nat, n < 256 → n % 2 = 0 → (bits BinOp.and .u8 (n : Int) 1 == 1) = false := of_decide_eq_true (by kernel_rfl)
theorem group_no (p : Mc) (h : p.y0 % 2 = 0) (h8 : p.y0 < 256) (w : World) :
    Calls Try.prog 34 #[.agg #[.int .u8 (p.y0 : Int), .int .u8 (p.y1 : Int), .int .u8 (p.y2 : Int), .int .u8 (p.y3 : Int), .int .u8 (p.y4 : Int), .int .u8 (p.y5 : Int)]] w fun e w' => e = .returned (.bool false) ∧ Below w.heap.size w w' := by
  go_enter Try.func34, Try.ntmps34
  go_wp2_with fail
  go_ret
  exact ⟨by show Ending.returned (Value.bool (bits BinOp.and .u8 (p.y0 : Int) 1 == 1)) = _; rw [group_all _ h8 h], bAl (bRef w) _⟩
section
variable {B m : Nat} {w : World} {b : TB} {s : TS}
set_option maxHeartbeats 4000000 in
theorem learn_ok (h : Tab B w b m s) (hm : m < 1000000) (p : Pl) (hp : p.Good) (h0 : 1 ≤ p.1) (h1 : p.1 ≤ 4094) (a : Nat) (ha : a < s.n) (now : Int) (hg : p.2.y0 % 2 = 0) (hS : (lookL s.S p).getD 0 = 0) (hE : OkE s) (hr : whereV s p ≠ 0 ∨ ((s.S.length + s.E.length : Nat) : Int) < s.room) :
    Calls Try.prog 15 #[.pointer (some ⟨b.t, 0, none⟩), PV p, .int .i64 (a : Int), .int .i64 now] w fun e w' => e = .returned (.int .i64 0) ∧ Tab B w' b (m + 1) { s with E := putL s.E p ((a : Int), now) } ∧ ButB b.e w w' := by
  have H0 := Lib.hid (HB.new h p)
  have HP : Hid (∀ W, Tab B W b m s → Calls Try.prog 29 #[.pointer (some ⟨b.t, 0, none⟩), .int .i64 (a : Int)] W fun e w' => e = .returned (.bool true) ∧ w' = W) := Lib.hid (fun W hW => by
    have k := hasPort_any hW (a : Int)
    rw [decide_eq_true (show 0 ≤ (a : Int) ∧ (a : Int) < (s.n : Int) from ⟨by omega, by omega⟩)] at k
    exact k)
  have HV : Hid (∀ W, Calls Try.prog 27 #[.int .i64 p.1] W fun e w' => e = .returned (.bool true) ∧ w' = W) := Lib.hid (fun W => isVid_yes p.1 h0 h1 W)
  have HRm : Hid (∀ W, Tab B W b m s → Calls Try.prog 35 #[.pointer (some ⟨b.t, 0, none⟩), PV p] W fun e w' => e = .returned (.bool true) ∧ Below W.heap.size W w') := Lib.hid (fun W hW => by
    have k := hasRoom_any hW (Nat.le_of_lt hm) p hp hE
    rw [decide_eq_true hr] at k
    exact k)
  have HG : Hid (∀ W, Calls Try.prog 34 #[.agg #[.int .u8 (p.2.y0 : Int), .int .u8 (p.2.y1 : Int), .int .u8 (p.2.y2 : Int), .int .u8 (p.2.y3 : Int), .int .u8 (p.2.y4 : Int), .int .u8 (p.2.y5 : Int)]] W fun e w' => e = .returned (.bool false) ∧ Below W.heap.size W w') := Lib.hid (fun W => group_no p.2 hg hp.2.g0 W)
  have HL : Hid (∀ W, Tab B W b m s → (Instr.lookup 78 (.map (some b.s)) (PV p) false).run Try.prog W = .ok (.int .i64 0) W) := Lib.hid (fun W hW => by
    have k := hW.ms.look p hp
    have e : (lookL s.S p).getD MS.zero = 0 := hS
    rw [e] at k
    exact k)
  have HM := Lib.hid hm
  have HGood := Lib.hid hp
  clear h h0 h1 ha hg hS hE hr hp hm
  go_enter Try.func15, Try.ntmps15
  go_wp2_with fail
  obtain ⟨W, hW⟩ : ∃ W, w.alloc (.cells #[.int .i64 p.1, .int .u8 (p.2.y0 : Int), .int .u8 (p.2.y1 : Int), .int .u8 (p.2.y2 : Int), .int .u8 (p.2.y3 : Int), .int .u8 (p.2.y4 : Int), .int .u8 (p.2.y5 : Int)] 42) = W := ⟨_, rfl⟩
  rw [hW] at H0 ⊢
  clear hW
  obtain ⟨c0, c1, c2, c3, c4, k0, k1, k2, k3, k4, k5, k6, -⟩ := H0.out.all
  go_wp2_with (first
    | (go_at_call 27; (with_reducible refine (HV.out _).mono ?_); rintro e w1 ⟨rfl, rfl⟩)
    | (go_at_call 29; (with_reducible refine (HP.out _ H0.out.tab).mono ?_); rintro e w2 ⟨rfl, rfl⟩)
    | (go_at_call 34; (with_reducible refine (HG.out _).mono ?_); rintro e w3 ⟨rfl, hb⟩; have H3 := Lib.hid (H0.out.below hb); clear hb; obtain ⟨d0, d1, d2, d3, d4, e0, e1, e2, e3, e4, e5, e6, -⟩ := H3.out.all))
  have l1 := HL.out w3.drew H3.out.drew.tab
  go_region
  all_goals
    go_wp2_with fail
    have H4 := Lib.hid H3.out.drew
    obtain ⟨X, hX⟩ : ∃ X, w3.drew = X := ⟨_, rfl⟩
    rw [hX] at H4 ⊢
    clear hX l1 d0 d1 d2 d3 d4 e0 e1 e2 e3 e4 e5 e6
    obtain ⟨d0, d1, d2, d3, d4, e0, e1, e2, e3, e4, e5, e6, -⟩ := H4.out.all
    go_wp2_with (go_at_call 35; (with_reducible refine (HRm.out _ H4.out.tab).mono ?_); rintro e w5 ⟨rfl, hb⟩; have H5 := Lib.hid (H4.out.below hb); clear hb; obtain ⟨f0, f1, f2, f3, f4, g0, g1, g2, g3, g4, g5, g6, -⟩ := H5.out.all)
    all_goals
      have HTd : Tab B w5.drew b m s := H5.out.drew.tab
      obtain ⟨w6, hrun, hmap, hturn⟩ := HTd.me.put p HGood.out ((a : Int), now) (by have := HM.out; unfold maxLen; omega)
      have hrun2 : (Instr.mapUpdate 79 (.map (some b.e)) (PV p) (.agg #[.int .i64 (a : Int), .int .i64 now])).run Try.prog w5.drew = .ok () w6 := hrun
      have HF := Lib.hid (HTd.setE hturn (Nat.le_succ m) hmap)
      have HB2 : Hid (ButB b.e w w6) := Lib.hid ((ButB.of_below H5.out.drew.bel).trans (ButB.turned hturn))
      clear hrun hmap hturn HTd
      go_region
      all_goals
        go_wp2_with fail
        go_ret
        exact ⟨rfl, HF.out, HB2.out⟩
end

end Go.Proofs.Ytkbodcgamfkegaa
