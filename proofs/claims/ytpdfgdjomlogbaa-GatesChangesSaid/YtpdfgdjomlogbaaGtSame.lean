/- The law's same, of lists that are alike. -/
import Derived.Test.YtpdfgdjomlogbaaGtGate3
namespace Go.Proofs.Ytpdfgdjomlogbaa
open Go.RowKit Go.Joins

def SmRel (b c : Int) (s1 s2 : Value) (n : Nat) (w : World) (kv : Value) (wr : World) : Prop :=
  ∃ k : Nat, k ≤ n ∧ kv = .int .i64 (k : Int) ∧ LB wr w.heap.size b c s1 ∧ LB wr (w.heap.size + 1) b c s2 ∧ Below w.heap.size w wr
set_option maxHeartbeats 1000000 in
theorem same_yes {b c : Int} {s1 s2 : Value} {ts : List (Int × Int)} {w : World} (h1 : TArg w s1 ts) (h2 : TArg w s2 ts) (hl : ts.length ≤ 1000) :
    Calls Try.prog 27 #[LV b c s1, LV b c s2] w fun e w' => e = .returned (.bool true) ∧ Below w.heap.size w w' := by
  have hB := bAl (bAl (bRef w) (.cells #[.int .i64 b, .int .i64 c, s1] 24)) (.cells #[.int .i64 b, .int .i64 c, s2] 24)
  have HB := Lib.hid hB
  have HL1 := Lib.hid ((LB.new w b c s1).below (bAl (bRef _) (.cells #[.int .i64 b, .int .i64 c, s2] 24)))
  have hL2 := LB.new (w.alloc (.cells #[.int .i64 b, .int .i64 c, s1] 24)) b c s2
  rw [show (w.alloc (.cells #[.int .i64 b, .int .i64 c, s1] 24)).heap.size = w.heap.size + 1 by simp] at hL2
  have HL2 := Lib.hid hL2
  have H1 := Lib.hid h1
  have H2 := Lib.hid h2
  obtain ⟨p1, k1, rfl⟩ := h1.slice
  obtain ⟨p2, k2, rfl⟩ := h2.slice
  obtain ⟨n, hn⟩ : ∃ n, ts.length = n := ⟨_, rfl⟩
  have HN := Lib.hid hn
  obtain ⟨i0, i1, i2⟩ := HL1.out.cells
  obtain ⟨j0, j1, j2⟩ := HL2.out.cells
  rw [hn] at HB HL1 HL2 H1 H2 i0 i1 i2 j0 j1 j2 hl ⊢
  have e0 : (b != b) = false := by simp
  have e1 : (c != c) = false := by simp
  have e2 : ((n : Int) != (n : Int)) = false := by simp
  clear h1 h2 hn hB hL2
  go_enter Try.func27, Try.ntmps27
  go_wp2_with fail
  go_loopw [30] (fun kv wr => SmRel b c (.slice p1 n k1) (.slice p2 n k2) n w kv wr) (fun kv _ => n - (intOf kv).toNat)
  case atStart => exact ⟨0, by omega, rfl, HL1.out, HL2.out, HB.out⟩
  case round =>
    clear HB HL1 HL2 i0 i1 i2 j0 j1 j2
    obtain ⟨k, hk, rfl, hl1, hl2, hb⟩ := hrel
    have HB := Lib.hid hb
    have HL1 := Lib.hid hl1
    have HL2 := Lib.hid hl2
    obtain ⟨i0, i1, i2⟩ := hl1.cells
    obtain ⟨j0, j1, j2⟩ := hl2.cells
    rcases Nat.lt_or_ge k n with g | g
    · have hd : decide ((k : Int) < (n : Int)) = true := decide_eq_true (by omega)
      have hk2 : k < ts.length := by rw [HN.out]; exact g
      obtain ⟨b1, o1, q1, f1, hc1, hr1⟩ := (H1.out.below hb).at (by omega)
      obtain ⟨b2, o2, q2, f2, hc2, hr2⟩ := (H2.out.below hb).at (by omega)
      rw [HN.out] at f1 f2 hc1 hc2
      injection f1 with f1 _ f1c
      injection f2 with f2 _ f2c
      subst f1 f2 f1c f2c
      obtain ⟨x0, x1⟩ := hr1.2 k hk2
      obtain ⟨y0, y1⟩ := hr2.2 k hk2
      generalize tA ts k = a at *
      generalize tR ts k = r at *
      clear hb hl1 hl2 hr1 hr2 hk2
      go_wp2_with fail
      go_region
      all_goals (
        go_wp2_with fail
        go_roundw
        case rel => exact ⟨k + 1, by omega, by go_num, HL1.out.below (bDr1 (bRef _)), HL2.out.below (bDr1 (bRef _)), bDr1 HB.out⟩
        case measure => simp [intOf]; omega)
    · obtain rfl : k = n := by omega
      have hd : decide ((k : Int) < (k : Int)) = false := decide_eq_false (by omega)
      clear hb hl1 hl2
      go_wp2_with fail
      go_ret
      exact ⟨rfl, HB.out⟩

end Go.Proofs.Ytpdfgdjomlogbaa
