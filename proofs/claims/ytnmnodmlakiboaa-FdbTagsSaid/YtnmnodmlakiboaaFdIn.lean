/- Package fdb: In, at port 1. -/
import Derived.Test.YtnmnodmlakiboaaFdPort
namespace Go.Proofs.Ytnmnodmlakiboaa
open Go.RowKit Go.Joins Go.Maps Go.MapKept Go.ChangeMaps Go.WideMaps

section
variable {B m : Nat} {w : World} {b : TB} {s : TS}
set_option maxRecDepth 20000 in
set_option maxHeartbeats 4000000 in
theorem in_untagged (h : Tab B w b m s) (hn : 1 < s.n) (x prio : Int) (hx0 : 1 ≤ x) (hx1 : x ≤ 4094) (hp0 : 0 ≤ prio) (hp1 : prio ≤ 7) (v : Int) (hv : s.F 9 = v) (hv64 : In64 v) (q : Int) (hq : s.F 10 = q) (P U : Int) (hV : vlanV s v = (P, U)) (hb : (bits .and .i64 P 2 == 0) = false) :
    Calls Try.prog 12 #[.pointer (some ⟨b.t, 0, none⟩), .int .i64 1, .bool false, .int .i64 x, .int .i64 prio] w fun e w' => e = .returned (.tuple #[.int .i64 v, .int .i64 q, .int .i64 0]) ∧ Below w.heap.size w w' := by
  have HP : Hid (∀ W, Tab B W b m s → Calls Try.prog 31 #[.pointer (some ⟨b.t, 0, none⟩), .int .i64 1] W fun e w' => e = .returned (.bool true) ∧ w' = W) := Lib.hid (fun W hW => by
    have k := hasPort_any hW 1
    rw [decide_eq_true (show 0 ≤ (1 : Int) ∧ (1 : Int) < (s.n : Int) from ⟨by omega, by omega⟩)] at k
    exact k)
  have HVd : Hid (∀ W, Calls Try.prog 29 #[.int .i64 x] W fun e w' => e = .returned (.bool true) ∧ w' = W) := Lib.hid (fun W => isVid_yes x hx0 hx1 W)
  have HPr : Hid (∀ W, Calls Try.prog 30 #[.int .i64 prio] W fun e w' => e = .returned (.bool true) ∧ w' = W) := Lib.hid (fun W => isPrio_yes prio hp0 hp1 W)
  have HLK : Hid (∀ W, Tab B W b m s → (Instr.lookup 79 (.map (some b.v)) (.int .i64 v) false).run Try.prog W = .ok (.agg #[.int .i64 P, .int .i64 U]) W) := Lib.hid (fun W hW => by
    have k := hW.mv.look v hv64
    have e : (lookL s.V v).getD MV.zero = (P, U) := hV
    rw [e] at k
    exact k)
  have hfd : ∀ W, (Instr.field 50 (.agg #[.int .i64 P, .int .i64 U]) 0).run Try.prog W = .ok (.int .i64 P) W := fun W => by rfl
  have d1 : (x != 0) = true := by rw [bne_iff_ne]; omega
  have HT := Lib.hid h
  obtain ⟨c0, c1, c2, c3, c4⟩ := h.cells
  have hz1 : (1 : Int) < (s.n : Int) := by omega
  have m0 := (h.port (i := 9) (by omega)).1
  have m1 := (h.port (i := 10) (by omega)).1
  have m2 := (h.port (i := 11) (by omega)).1
  have m3 := (h.port (i := 12) (by omega)).1
  have m4 := (h.port (i := 13) (by omega)).1
  have m5 := (h.port (i := 14) (by omega)).1
  have m6 := (h.port (i := 15) (by omega)).1
  have m7 := (h.port (i := 16) (by omega)).1
  have m8 := (h.port (i := 17) (by omega)).1
  rw [hv] at m0
  rw [hq] at m1
  clear h hn hx0 hx1 hp0 hp1 hv hq hV hv64
  go_enter Try.func12, Try.ntmps12
  go_wp2_with (first
    | (go_at_call 29; (with_reducible refine (HVd.out _).mono ?_); rintro e w1 ⟨rfl, rfl⟩)
    | (go_at_call 30; (with_reducible refine (HPr.out _).mono ?_); rintro e w2 ⟨rfl, rfl⟩)
    | (go_at_call 31; (with_reducible refine (HP.out _ HT.out).mono ?_); rintro e w3 ⟨rfl, rfl⟩))
  have T4 := HT.out.below (bAl (bRef w3) (.cells #[.int .i64 v, .int .i64 q, .int .i64 (s.F 11), .int .i64 (s.F 12), .int .i64 (s.F 13), .int .i64 (s.F 14), .int .i64 (s.F 15), .int .i64 (s.F 16), .int .i64 (s.F 17)] 54))
  have l1 := HLK.out (w3.alloc (.cells #[.int .i64 v, .int .i64 q, .int .i64 (s.F 11), .int .i64 (s.F 12), .int .i64 (s.F 13), .int .i64 (s.F 14), .int .i64 (s.F 15), .int .i64 (s.F 16), .int .i64 (s.F 17)] 54)).drew (T4.below (bDr (bRef _) 1))
  obtain ⟨a0, a1, a2, a3, a4⟩ := T4.cells
  go_region
  all_goals
    go_wp2_with fail
    go_quiet (fail)
    go_wp2_with fail
    exact bodyPost_ret (v := .tuple #[.int .i64 v, .int .i64 q, .int .i64 0]) (by simp [results, Try.results12, go_sem]) rfl ⟨rfl, bDr (bDr (bAl (bRef _) _) 1) _⟩
set_option maxRecDepth 20000 in
set_option maxHeartbeats 4000000 in
theorem in_tagged (h : Tab B w b m s) (hn : 1 < s.n) (x prio : Int) (hx0 : 1 ≤ x) (hx1 : x ≤ 4094) (hp0 : 0 ≤ prio) (hp1 : prio ≤ 7) (v : Int) (hv : s.F 9 = v) (hv64 : In64 v) (q : Int) (hq : s.F (10 + prio.toNat) = q) (P U : Int) (hV : vlanV s x = (P, U)) (hb : (bits .and .i64 P 2 == 0) = false) :
    Calls Try.prog 12 #[.pointer (some ⟨b.t, 0, none⟩), .int .i64 1, .bool true, .int .i64 x, .int .i64 prio] w fun e w' => e = .returned (.tuple #[.int .i64 x, .int .i64 q, .int .i64 0]) ∧ Below w.heap.size w w' := by
  have HP : Hid (∀ W, Tab B W b m s → Calls Try.prog 31 #[.pointer (some ⟨b.t, 0, none⟩), .int .i64 1] W fun e w' => e = .returned (.bool true) ∧ w' = W) := Lib.hid (fun W hW => by
    have k := hasPort_any hW 1
    rw [decide_eq_true (show 0 ≤ (1 : Int) ∧ (1 : Int) < (s.n : Int) from ⟨by omega, by omega⟩)] at k
    exact k)
  have HVd : Hid (∀ W, Calls Try.prog 29 #[.int .i64 x] W fun e w' => e = .returned (.bool true) ∧ w' = W) := Lib.hid (fun W => isVid_yes x hx0 hx1 W)
  have HPr : Hid (∀ W, Calls Try.prog 30 #[.int .i64 prio] W fun e w' => e = .returned (.bool true) ∧ w' = W) := Lib.hid (fun W => isPrio_yes prio hp0 hp1 W)
  have hx64 : In64 x := ⟨by omega, by omega⟩
  have HLK : Hid (∀ W, Tab B W b m s → (Instr.lookup 79 (.map (some b.v)) (.int .i64 x) false).run Try.prog W = .ok (.agg #[.int .i64 P, .int .i64 U]) W) := Lib.hid (fun W hW => by
    have k := hW.mv.look x hx64
    have e : (lookL s.V x).getD MV.zero = (P, U) := hV
    rw [e] at k
    exact k)
  have hfd : ∀ W, (Instr.field 50 (.agg #[.int .i64 P, .int .i64 U]) 0).run Try.prog W = .ok (.int .i64 P) W := fun W => by rfl
  have d1 : (x != 0) = true := by rw [bne_iff_ne]; omega
  have d2 : (x == 0) = false := by rw [beq_eq_false_iff_ne]; omega
  have HT := Lib.hid h
  have HQ := Lib.hid hq
  obtain ⟨c0, c1, c2, c3, c4⟩ := h.cells
  have hz1 : (1 : Int) < (s.n : Int) := by omega
  have m0 := (h.port (i := 9) (by omega)).1
  have m1 := (h.port (i := 10) (by omega)).1
  have m2 := (h.port (i := 11) (by omega)).1
  have m3 := (h.port (i := 12) (by omega)).1
  have m4 := (h.port (i := 13) (by omega)).1
  have m5 := (h.port (i := 14) (by omega)).1
  have m6 := (h.port (i := 15) (by omega)).1
  have m7 := (h.port (i := 16) (by omega)).1
  have m8 := (h.port (i := 17) (by omega)).1
  rw [hv] at m0
  have hk8 : prio = 0 ∨ prio = 1 ∨ prio = 2 ∨ prio = 3 ∨ prio = 4 ∨ prio = 5 ∨ prio = 6 ∨ prio = 7 := by omega
  clear h hn hx0 hx1 hp0 hp1 hv hq hV hv64 hx64
  rcases hk8 with rfl | rfl | rfl | rfl | rfl | rfl | rfl | rfl
  all_goals
    go_enter Try.func12, Try.ntmps12
    go_wp2_with (first
      | (go_at_call 29; (with_reducible refine (HVd.out _).mono ?_); rintro e w1 ⟨rfl, rfl⟩)
      | (go_at_call 30; (with_reducible refine (HPr.out _).mono ?_); rintro e w2 ⟨rfl, rfl⟩)
      | (go_at_call 31; (with_reducible refine (HP.out _ HT.out).mono ?_); rintro e w3 ⟨rfl, rfl⟩))
    have T4 := HT.out.below (bAl (bRef w3) (.cells #[.int .i64 v, .int .i64 (s.F 10), .int .i64 (s.F 11), .int .i64 (s.F 12), .int .i64 (s.F 13), .int .i64 (s.F 14), .int .i64 (s.F 15), .int .i64 (s.F 16), .int .i64 (s.F 17)] 54))
    have l1 := HLK.out (w3.alloc (.cells #[.int .i64 v, .int .i64 (s.F 10), .int .i64 (s.F 11), .int .i64 (s.F 12), .int .i64 (s.F 13), .int .i64 (s.F 14), .int .i64 (s.F 15), .int .i64 (s.F 16), .int .i64 (s.F 17)] 54)).drew (T4.below (bDr (bRef _) 1))
    obtain ⟨a0, a1, a2, a3, a4⟩ := T4.cells
    go_region
    all_goals
      go_wp2_with fail
      go_quiet (fail)
      go_wp2_with fail
      exact bodyPost_ret (v := .tuple #[.int .i64 x, .int .i64 q, .int .i64 0]) (by simp [results, Try.results12, go_sem]; exact HQ.out) rfl ⟨rfl, bDr (bDr (bAl (bRef _) _) 1) _⟩
set_option maxRecDepth 20000 in
set_option maxHeartbeats 4000000 in
theorem in_zero (h : Tab B w b m s) (hn : 1 < s.n) (prio : Int) (hp0 : 0 ≤ prio) (hp1 : prio ≤ 7) (v : Int) (hv : s.F 9 = v) (hv64 : In64 v) (q : Int) (hq : s.F (10 + prio.toNat) = q) (P U : Int) (hV : vlanV s v = (P, U)) (hb : (bits .and .i64 P 2 == 0) = false) :
    Calls Try.prog 12 #[.pointer (some ⟨b.t, 0, none⟩), .int .i64 1, .bool true, .int .i64 0, .int .i64 prio] w fun e w' => e = .returned (.tuple #[.int .i64 v, .int .i64 q, .int .i64 0]) ∧ Below w.heap.size w w' := by
  have HP : Hid (∀ W, Tab B W b m s → Calls Try.prog 31 #[.pointer (some ⟨b.t, 0, none⟩), .int .i64 1] W fun e w' => e = .returned (.bool true) ∧ w' = W) := Lib.hid (fun W hW => by
    have k := hasPort_any hW 1
    rw [decide_eq_true (show 0 ≤ (1 : Int) ∧ (1 : Int) < (s.n : Int) from ⟨by omega, by omega⟩)] at k
    exact k)
  have HPr : Hid (∀ W, Calls Try.prog 30 #[.int .i64 prio] W fun e w' => e = .returned (.bool true) ∧ w' = W) := Lib.hid (fun W => isPrio_yes prio hp0 hp1 W)
  have HLK : Hid (∀ W, Tab B W b m s → (Instr.lookup 79 (.map (some b.v)) (.int .i64 v) false).run Try.prog W = .ok (.agg #[.int .i64 P, .int .i64 U]) W) := Lib.hid (fun W hW => by
    have k := hW.mv.look v hv64
    have e : (lookL s.V v).getD MV.zero = (P, U) := hV
    rw [e] at k
    exact k)
  have hfd : ∀ W, (Instr.field 50 (.agg #[.int .i64 P, .int .i64 U]) 0).run Try.prog W = .ok (.int .i64 P) W := fun W => by rfl
  have HT := Lib.hid h
  have HQ := Lib.hid hq
  obtain ⟨c0, c1, c2, c3, c4⟩ := h.cells
  have hz1 : (1 : Int) < (s.n : Int) := by omega
  have m0 := (h.port (i := 9) (by omega)).1
  have m1 := (h.port (i := 10) (by omega)).1
  have m2 := (h.port (i := 11) (by omega)).1
  have m3 := (h.port (i := 12) (by omega)).1
  have m4 := (h.port (i := 13) (by omega)).1
  have m5 := (h.port (i := 14) (by omega)).1
  have m6 := (h.port (i := 15) (by omega)).1
  have m7 := (h.port (i := 16) (by omega)).1
  have m8 := (h.port (i := 17) (by omega)).1
  rw [hv] at m0
  have hk8 : prio = 0 ∨ prio = 1 ∨ prio = 2 ∨ prio = 3 ∨ prio = 4 ∨ prio = 5 ∨ prio = 6 ∨ prio = 7 := by omega
  clear h hn hp0 hp1 hv hq hV hv64
  rcases hk8 with rfl | rfl | rfl | rfl | rfl | rfl | rfl | rfl
  all_goals
    go_enter Try.func12, Try.ntmps12
    go_wp2_with (first
      | (go_at_call 30; (with_reducible refine (HPr.out _).mono ?_); rintro e w2 ⟨rfl, rfl⟩)
      | (go_at_call 31; (with_reducible refine (HP.out _ HT.out).mono ?_); rintro e w3 ⟨rfl, rfl⟩))
    have T4 := HT.out.below (bAl (bRef w3) (.cells #[.int .i64 v, .int .i64 (s.F 10), .int .i64 (s.F 11), .int .i64 (s.F 12), .int .i64 (s.F 13), .int .i64 (s.F 14), .int .i64 (s.F 15), .int .i64 (s.F 16), .int .i64 (s.F 17)] 54))
    have l1 := HLK.out (w3.alloc (.cells #[.int .i64 v, .int .i64 (s.F 10), .int .i64 (s.F 11), .int .i64 (s.F 12), .int .i64 (s.F 13), .int .i64 (s.F 14), .int .i64 (s.F 15), .int .i64 (s.F 16), .int .i64 (s.F 17)] 54)).drew (T4.below (bDr (bRef _) 1))
    obtain ⟨a0, a1, a2, a3, a4⟩ := T4.cells
    go_region
    all_goals
      go_wp2_with fail
      go_quiet (fail)
      go_wp2_with fail
      exact bodyPost_ret (v := .tuple #[.int .i64 v, .int .i64 q, .int .i64 0]) (by simp [results, Try.results12, go_sem]; exact HQ.out) rfl ⟨rfl, bDr (bDr (bAl (bRef _) _) 1) _⟩
end

end Go.Proofs.Ytnmnodmlakiboaa
