/- Package sieve: within, isRight, fits. -/
import Derived.Test.YtpdfgdjomlogbabSvMem
namespace Go.Proofs.Ytpdfgdjomlogbab
open Go.RowKit Go.Joins

theorem within_any (x a b : Int) : RetQ 25 #[.int .i64 x, .int .i64 a, .int .i64 b] (.bool (decide (a ≤ x ∧ x ≤ b))) := fun w => by
  by_cases h0 : a ≤ x
  · have d1 : decide (a ≤ x) = true := decide_eq_true h0
    by_cases h1 : x ≤ b
    · have d2 : decide (x ≤ b) = true := decide_eq_true h1
      rw [decide_eq_true (show a ≤ x ∧ x ≤ b from ⟨h0, h1⟩)]
      clear h0 h1
      go_enter Try.func25, Try.ntmps25
      go_wp2_with fail
      go_ret
      exact ⟨rfl, rfl⟩
    · have d2 : decide (x ≤ b) = false := decide_eq_false h1
      rw [decide_eq_false (show ¬ (a ≤ x ∧ x ≤ b) from fun k => h1 k.2)]
      clear h0 h1
      go_enter Try.func25, Try.ntmps25
      go_wp2_with fail
      go_ret
      exact ⟨rfl, rfl⟩
  · have d1 : decide (a ≤ x) = false := decide_eq_false h0
    rw [decide_eq_false (show ¬ (a ≤ x ∧ x ≤ b) from fun k => h0 k.1)]
    clear h0
    go_enter Try.func25, Try.ntmps25
    go_wp2_with fail
    go_ret
    exact ⟨rfl, rfl⟩

def Fits (x : Sm) (p v : Int) (d s : M6) : Prop := x.vid = v ∧ (x.port = -1 ∨ x.port = p) ∧ x.mac = (if x.src then s else d)
instance (x : Sm) (p v : Int) (d s : M6) : Decidable (Fits x p v d s) := by unfold Fits; infer_instance
theorem run_eqMac (a b : M6) (w : World) : (binOp .eql 26 (MV a) (MV b)).run Try.prog w = .ok (.bool (decide (a = b))) w := by
  have h := eqMac a b w _ rfl
  unfold binOp
  simp only [Sem.run_bind]
  show ((Op.equalIn 10000 26 (MV a) (MV b)).run Try.prog w).andThen _ = _
  rw [h]
  rfl
set_option maxHeartbeats 1000000 in
theorem fits_any (x : Sm) (p v : Int) (d s : M6) (w : World) : Calls Try.prog 22 #[.agg (SA x), .int .i64 p, .int .i64 v, MV d, MV s] w fun e w' => e = .returned (.bool (decide (Fits x p v d s))) ∧ Below w.heap.size w w' := by
  have HB := Lib.hid (bAl (bAl (bAl (bRef w) (.cells (SA x) 28)) (.cells (Value.cells (MV d)) 26)) (.cells (Value.cells (MV s)) 26))
  obtain ⟨s0, s1, s8⟩ := (⟨SA_0 x, SA_1 x, SA_8 x⟩ : _ ∧ _ ∧ _)
  obtain ⟨s2, s3, s4, s5, s6, s7⟩ := (⟨SA_2 x, SA_3 x, SA_4 x, SA_5 x, SA_6 x, SA_7 x⟩ : _ ∧ _ ∧ _ ∧ _ ∧ _ ∧ _)
  have q := fun W => run_eqMac x.mac (if x.src then s else d) W
  obtain ⟨r, hr⟩ : ∃ r, decide (Fits x p v d s) = r := ⟨_, rfl⟩
  rw [hr]
  have HR := Lib.hid hr
  clear hr
  cases hs : x.src with
  | false =>
    rw [hs] at s8 q
    simp only [Bool.false_eq_true, if_false, if_true] at q
    by_cases e1 : x.vid = v
    · have d1 : (x.vid == v) = true := by simpa using e1
      by_cases e2 : x.port = -1
      · have d2 : (x.port == -1) = true := by simpa using e2
        have HE : Hid (decide (x.mac = d) = r) := Lib.hid ((decide_eq_decide.mpr ⟨fun h => ⟨e1, .inl e2, by rw [hs]; exact h⟩, fun h => by have k := h.2.2; rw [hs] at k; exact k⟩).trans HR.out)
        clear HR e1 e2
        go_enter Try.func22, Try.ntmps22
        go_wp2_with fail
        go_ret
        exact ⟨by rw [← HE.out]; rfl, HB.out⟩
      · have d2 : (x.port == -1) = false := by simpa using e2
        by_cases e3 : x.port = p
        · have d3 : (x.port == p) = true := by simpa using e3
          have HE : Hid (decide (x.mac = d) = r) := Lib.hid ((decide_eq_decide.mpr ⟨fun h => ⟨e1, .inr e3, by rw [hs]; exact h⟩, fun h => by have k := h.2.2; rw [hs] at k; exact k⟩).trans HR.out)
          clear HR e1 e2 e3
          go_enter Try.func22, Try.ntmps22
          go_wp2_with fail
          go_ret
          exact ⟨by rw [← HE.out]; rfl, HB.out⟩
        · have d3 : (x.port == p) = false := by simpa using e3
          have HE : Hid (false = r) := Lib.hid (by rw [← HR.out]; unfold Fits; simp [e1, e2, e3])
          clear HR e1 e2 e3
          go_enter Try.func22, Try.ntmps22
          go_wp2_with fail
          go_ret
          exact ⟨by rw [← HE.out]; rfl, HB.out⟩
    · have d1 : (x.vid == v) = false := by simpa using e1
      have HE : Hid (false = r) := Lib.hid (by rw [← HR.out]; unfold Fits; simp [e1])
      clear HR e1
      go_enter Try.func22, Try.ntmps22
      go_wp2_with fail
      go_ret
      exact ⟨by rw [← HE.out]; rfl, HB.out⟩
  | true =>
    rw [hs] at s8 q
    simp only [Bool.false_eq_true, if_false, if_true] at q
    by_cases e1 : x.vid = v
    · have d1 : (x.vid == v) = true := by simpa using e1
      by_cases e2 : x.port = -1
      · have d2 : (x.port == -1) = true := by simpa using e2
        have HE : Hid (decide (x.mac = s) = r) := Lib.hid ((decide_eq_decide.mpr ⟨fun h => ⟨e1, .inl e2, by rw [hs]; exact h⟩, fun h => by have k := h.2.2; rw [hs] at k; exact k⟩).trans HR.out)
        clear HR e1 e2
        go_enter Try.func22, Try.ntmps22
        go_wp2_with fail
        go_ret
        exact ⟨by rw [← HE.out]; rfl, bAl (bAl (bAl (bRef w) _) _) _⟩
      · have d2 : (x.port == -1) = false := by simpa using e2
        by_cases e3 : x.port = p
        · have d3 : (x.port == p) = true := by simpa using e3
          have HE : Hid (decide (x.mac = s) = r) := Lib.hid ((decide_eq_decide.mpr ⟨fun h => ⟨e1, .inr e3, by rw [hs]; exact h⟩, fun h => by have k := h.2.2; rw [hs] at k; exact k⟩).trans HR.out)
          clear HR e1 e2 e3
          go_enter Try.func22, Try.ntmps22
          go_wp2_with fail
          go_ret
          exact ⟨by rw [← HE.out]; rfl, bAl (bAl (bAl (bRef w) _) _) _⟩
        · have d3 : (x.port == p) = false := by simpa using e3
          have HE : Hid (false = r) := Lib.hid (by rw [← HR.out]; unfold Fits; simp [e1, e2, e3])
          clear HR e1 e2 e3
          go_enter Try.func22, Try.ntmps22
          go_wp2_with fail
          go_ret
          exact ⟨by rw [← HE.out]; rfl, bAl (bAl (bAl (bRef w) _) _) _⟩
    · have d1 : (x.vid == v) = false := by simpa using e1
      have HE : Hid (false = r) := Lib.hid (by rw [← HR.out]; unfold Fits; simp [e1])
      clear HR e1
      go_enter Try.func22, Try.ntmps22
      go_wp2_with fail
      go_ret
      exact ⟨by rw [← HE.out]; rfl, bAl (bAl (bAl (bRef w) _) _) _⟩

end Go.Proofs.Ytpdfgdjomlogbab
