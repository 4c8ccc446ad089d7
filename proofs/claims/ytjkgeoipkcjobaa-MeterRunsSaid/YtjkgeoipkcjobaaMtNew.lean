/- Package meter: Check, New. -/
import Derived.Test.YtjkgeoipkcjobaaMtCol
namespace Go.Proofs.Ytjkgeoipkcjobaa
open Go.RowKit Go.Joins

abbrev CV (r bu mo be : Int) (cp aw sh : Bool) : Value := .agg #[.int .i64 r, .int .i64 bu, .int .i64 mo, .int .i64 be, .bool cp, .bool aw, .bool sh]
def ok1 (x : Int) : Prop := 0 ≤ x ∧ x ≤ 8589934592
def okC (r bu mo be : Int) : Prop := ok1 r ∧ ok1 bu ∧ ok1 mo ∧ ok1 be
instance (x : Int) : Decidable (ok1 x) := by unfold ok1; infer_instance
instance (r bu mo be : Int) : Decidable (okC r bu mo be) := by unfold okC; infer_instance
def pref (r bu mo be : Int) (k : Nat) : Prop := (1 ≤ k → ok1 r) ∧ (2 ≤ k → ok1 bu) ∧ (3 ≤ k → ok1 mo) ∧ (4 ≤ k → ok1 be)
set_option maxHeartbeats 1000000 in
theorem check_any (r bu mo be : Int) (cp aw sh : Bool) (w : World) :
    Calls Try.prog 18 #[CV r bu mo be cp aw sh] w fun e w' => e = .returned (.int .i64 (if okC r bu mo be then 0 else 1)) ∧ Below w.heap.size w w' := by
  obtain ⟨res, hres⟩ : ∃ res : Int, (if okC r bu mo be then (0 : Int) else 1) = res := ⟨_, rfl⟩
  rw [hres]
  have HR := Lib.hid hres
  clear hres
  have i0 : ∀ w, (Instr.index 63 (.agg #[.int .i64 r, .int .i64 bu, .int .i64 mo, .int .i64 be]) (.int .i64 0)).run Try.prog w = .ok (.int .i64 r) w := fun _ => by kernel_rfl
  have i1 : ∀ w, (Instr.index 63 (.agg #[.int .i64 r, .int .i64 bu, .int .i64 mo, .int .i64 be]) (.int .i64 1)).run Try.prog w = .ok (.int .i64 bu) w := fun _ => by kernel_rfl
  have i2 : ∀ w, (Instr.index 63 (.agg #[.int .i64 r, .int .i64 bu, .int .i64 mo, .int .i64 be]) (.int .i64 2)).run Try.prog w = .ok (.int .i64 mo) w := fun _ => by kernel_rfl
  have i3 : ∀ w, (Instr.index 63 (.agg #[.int .i64 r, .int .i64 bu, .int .i64 mo, .int .i64 be]) (.int .i64 3)).run Try.prog w = .ok (.int .i64 be) w := fun _ => by kernel_rfl
  go_enter Try.func18, Try.ntmps18
  go_wp2_with fail
  go_loopw [14] (fun kv wr => ∃ k : Nat, kv = .int .i64 (k : Int) ∧ k ≤ 4 ∧ pref r bu mo be k ∧ Below w.heap.size w wr) (fun kv _ => 4 - (intOf kv).toNat)
  case atStart => exact ⟨0, rfl, by omega, ⟨fun h => by omega, fun h => by omega, fun h => by omega, fun h => by omega⟩, bAl (bRef w) _⟩
  case round =>
    obtain ⟨k, rfl, hk, hp, hb⟩ := hrel
    have HB := Lib.hid hb
    have HP := Lib.hid hp
    clear hp hb
    have hk5 : k = 0 ∨ k = 1 ∨ k = 2 ∨ k = 3 ∨ k = 4 := by omega
    clear hk
    rcases hk5 with rfl | rfl | rfl | rfl | rfl
    · by_cases h1 : r < 0
      · have d1 : decide (r < 0) = true := decide_eq_true h1
        have e := HR.out
        rw [if_neg (fun h => by have := h.1.1; omega)] at e
        subst e
        go_wp2_with fail
        go_ret
        exact ⟨rfl, HB.out⟩
      have d1 : decide (r < 0) = false := decide_eq_false h1
      by_cases h2 : 8589934592 < r
      · have d2 : decide (8589934592 < r) = true := decide_eq_true h2
        have e := HR.out
        rw [if_neg (fun h => by have := h.1.2; omega)] at e
        subst e
        go_wp2_with fail
        go_ret
        exact ⟨rfl, HB.out⟩
      have d2 : decide (8589934592 < r) = false := decide_eq_false h2
      have HO : Hid (ok1 r) := Lib.hid ⟨by omega, by omega⟩
      clear h1 h2
      go_wp2_with fail
      go_roundw
      case rel => exact ⟨1, rfl, by omega, ⟨fun _ => HO.out, fun h => by omega, fun h => by omega, fun h => by omega⟩, HB.out⟩
      case measure => simp [intOf]
    · by_cases h1 : bu < 0
      · have d1 : decide (bu < 0) = true := decide_eq_true h1
        have e := HR.out
        rw [if_neg (fun h => by have := h.2.1.1; omega)] at e
        subst e
        go_wp2_with fail
        go_ret
        exact ⟨rfl, HB.out⟩
      have d1 : decide (bu < 0) = false := decide_eq_false h1
      by_cases h2 : 8589934592 < bu
      · have d2 : decide (8589934592 < bu) = true := decide_eq_true h2
        have e := HR.out
        rw [if_neg (fun h => by have := h.2.1.2; omega)] at e
        subst e
        go_wp2_with fail
        go_ret
        exact ⟨rfl, HB.out⟩
      have d2 : decide (8589934592 < bu) = false := decide_eq_false h2
      have HO : Hid (ok1 bu) := Lib.hid ⟨by omega, by omega⟩
      clear h1 h2
      go_wp2_with fail
      go_roundw
      case rel => exact ⟨2, rfl, by omega, ⟨fun _ => HP.out.1 (by omega), fun _ => HO.out, fun h => by omega, fun h => by omega⟩, HB.out⟩
      case measure => simp [intOf]
    · by_cases h1 : mo < 0
      · have d1 : decide (mo < 0) = true := decide_eq_true h1
        have e := HR.out
        rw [if_neg (fun h => by have := h.2.2.1.1; omega)] at e
        subst e
        go_wp2_with fail
        go_ret
        exact ⟨rfl, HB.out⟩
      have d1 : decide (mo < 0) = false := decide_eq_false h1
      by_cases h2 : 8589934592 < mo
      · have d2 : decide (8589934592 < mo) = true := decide_eq_true h2
        have e := HR.out
        rw [if_neg (fun h => by have := h.2.2.1.2; omega)] at e
        subst e
        go_wp2_with fail
        go_ret
        exact ⟨rfl, HB.out⟩
      have d2 : decide (8589934592 < mo) = false := decide_eq_false h2
      have HO : Hid (ok1 mo) := Lib.hid ⟨by omega, by omega⟩
      clear h1 h2
      go_wp2_with fail
      go_roundw
      case rel => exact ⟨3, rfl, by omega, ⟨fun _ => HP.out.1 (by omega), fun _ => HP.out.2.1 (by omega), fun _ => HO.out, fun h => by omega⟩, HB.out⟩
      case measure => simp [intOf]
    · by_cases h1 : be < 0
      · have d1 : decide (be < 0) = true := decide_eq_true h1
        have e := HR.out
        rw [if_neg (fun h => by have := h.2.2.2.1; omega)] at e
        subst e
        go_wp2_with fail
        go_ret
        exact ⟨rfl, HB.out⟩
      have d1 : decide (be < 0) = false := decide_eq_false h1
      by_cases h2 : 8589934592 < be
      · have d2 : decide (8589934592 < be) = true := decide_eq_true h2
        have e := HR.out
        rw [if_neg (fun h => by have := h.2.2.2.2; omega)] at e
        subst e
        go_wp2_with fail
        go_ret
        exact ⟨rfl, HB.out⟩
      have d2 : decide (8589934592 < be) = false := decide_eq_false h2
      have HO : Hid (ok1 be) := Lib.hid ⟨by omega, by omega⟩
      clear h1 h2
      go_wp2_with fail
      go_roundw
      case rel => exact ⟨4, rfl, by omega, ⟨fun _ => HP.out.1 (by omega), fun _ => HP.out.2.1 (by omega), fun _ => HP.out.2.2.1 (by omega), fun _ => HO.out⟩, HB.out⟩
      case measure => simp [intOf]
    · have e := HR.out
      rw [if_pos ⟨HP.out.1 (by omega), HP.out.2.1 (by omega), HP.out.2.2.1 (by omega), HP.out.2.2.2 (by omega)⟩] at e
      subst e
      go_wp2_with fail
      go_ret
      exact ⟨rfl, HB.out⟩

theorem new_conf (r bu mo be now : Int) (cp aw sh : Bool) (w : World) (h : ¬ okC r bu mo be) :
    Calls Try.prog 9 #[CV r bu mo be cp aw sh, .int .i64 now] w fun e w' => e = .returned (.tuple #[.pointer none, .int .i64 1]) ∧ Below w.heap.size w w' := by
  have HC := check_any r bu mo be cp aw sh
  rw [if_neg h] at HC
  have HC' := Lib.hid HC
  clear HC h
  go_enter Try.func9, Try.ntmps9
  go_wp2_with (go_at_call 18; (with_reducible refine (HC'.out _).mono ?_); rintro e w1 ⟨rfl, hb⟩; have HB := Lib.hid hb; clear hb)
  go_ret2
  exact ⟨rfl, bTr (bAl (bRef w) _) HB.out⟩
theorem new_time (r bu mo be now : Int) (cp aw sh : Bool) (w : World) (h : okC r bu mo be) (hn : now < 0 ∨ 1099511627776 < now) :
    Calls Try.prog 9 #[CV r bu mo be cp aw sh, .int .i64 now] w fun e w' => e = .returned (.tuple #[.pointer none, .int .i64 1]) ∧ Below w.heap.size w w' := by
  have HC := check_any r bu mo be cp aw sh
  rw [if_pos h] at HC
  have HC' := Lib.hid HC
  clear HC h
  by_cases h1 : now < 0
  · have d : decide (now < 0) = true := decide_eq_true h1
    clear hn
    go_enter Try.func9, Try.ntmps9
    go_wp2_with (go_at_call 18; (with_reducible refine (HC'.out _).mono ?_); rintro e w1 ⟨rfl, hb⟩; have HB := Lib.hid hb; clear hb)
    go_ret2
    exact ⟨rfl, bTr (bAl (bRef w) _) HB.out⟩
  · have d : decide (now < 0) = false := decide_eq_false h1
    have d2 : decide (1099511627776 < now) = true := decide_eq_true (by omega)
    clear hn
    go_enter Try.func9, Try.ntmps9
    go_wp2_with (go_at_call 18; (with_reducible refine (HC'.out _).mono ?_); rintro e w1 ⟨rfl, hb⟩; have HB := Lib.hid hb; clear hb)
    go_ret2
    exact ⟨rfl, bTr (bAl (bRef w) _) HB.out⟩
def M0 (r bu mo be now : Int) (cp aw sh : Bool) : MS := ⟨r, bu, mo, be, cp, aw, sh, now, bu * 1000000000, be * 1000000000, false⟩
theorem M0_good {r bu mo be now : Int} {cp aw sh : Bool} (h : okC r bu mo be) (h0 : 0 ≤ now) (h1 : now ≤ 1099511627776) : (M0 r bu mo be now cp aw sh).Good := by
  obtain ⟨⟨a1, a2⟩, ⟨a3, a4⟩, ⟨a5, a6⟩, a7, a8⟩ := h
  exact ⟨a1, a2, a3, a4, a5, a6, a7, a8, h0, h1, by show 0 ≤ bu * 1000000000; omega, Int.le_refl _, by show 0 ≤ be * 1000000000; omega, Int.le_refl _⟩
theorem conf_kept {w w1 : World} {r bu mo be : Int} {cp aw sh : Bool} {t : TypeId} (hb : Below (w.alloc (.cells #[.int .i64 r, .int .i64 bu, .int .i64 mo, .int .i64 be, .bool cp, .bool aw, .bool sh] t)).heap.size (w.alloc (.cells #[.int .i64 r, .int .i64 bu, .int .i64 mo, .int .i64 be, .bool cp, .bool aw, .bool sh] t)) w1) :
    w1.cell? ⟨w.heap.size, 0, none⟩ = some (.int .i64 r) ∧ w1.cell? ⟨w.heap.size, 1, none⟩ = some (.int .i64 bu) ∧ w1.cell? ⟨w.heap.size, 2, none⟩ = some (.int .i64 mo) ∧ w1.cell? ⟨w.heap.size, 3, none⟩ = some (.int .i64 be) ∧ w1.cell? ⟨w.heap.size, 4, none⟩ = some (.bool cp) ∧ w1.cell? ⟨w.heap.size, 5, none⟩ = some (.bool aw) ∧ w1.cell? ⟨w.heap.size, 6, none⟩ = some (.bool sh) := by
  refine ⟨?_, ?_, ?_, ?_, ?_, ?_, ?_⟩ <;> exact (hb.cell (by simp)).trans (by simp)
set_option maxHeartbeats 1000000 in
theorem new_ok (r bu mo be now : Int) (cp aw sh : Bool) (w : World) (h : okC r bu mo be) (h0 : 0 ≤ now) (h1 : now ≤ 1099511627776) :
    Calls Try.prog 9 #[CV r bu mo be cp aw sh, .int .i64 now] w fun e w' => ∃ b, e = .returned (.tuple #[.pointer (some ⟨b, 0, none⟩), .int .i64 0]) ∧ Mtr w' b (M0 r bu mo be now cp aw sh) ∧ w.heap.size ≤ b ∧ Below w.heap.size w w' := by
  have HC := check_any r bu mo be cp aw sh
  rw [if_pos h] at HC
  have HC' := Lib.hid HC
  obtain ⟨⟨a1, a2⟩, ⟨a3, a4⟩, ⟨a5, a6⟩, a7, a8⟩ := h
  have d : decide (now < 0) = false := decide_eq_false (by omega)
  have d2 : decide (1099511627776 < now) = false := decide_eq_false (by omega)
  have q1 : wrap64 (bu * 1000000000) = bu * 1000000000 := by unfold wrap64; omega
  have q2 : wrap64 (be * 1000000000) = be * 1000000000 := by unfold wrap64; omega
  clear HC h0 h1
  go_enter Try.func9, Try.ntmps9
  go_wp2_with (go_at_call 18; (with_reducible refine (HC'.out _).mono ?_); rintro e w1 ⟨rfl, hb⟩; have HB := Lib.hid hb; obtain ⟨k0, k1, k2, k3, k4, k5, k6⟩ := conf_kept hb; clear hb)
  go_ret2
  have hb := bTr (bAl (bRef w) _) HB.out
  exact ⟨w1.heap.size, rfl, heap_alloc_new w1 _, hb.size, bAl hb _⟩

end Go.Proofs.Ytjkgeoipkcjobaa
