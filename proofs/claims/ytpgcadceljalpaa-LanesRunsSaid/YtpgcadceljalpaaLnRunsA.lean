/- LanesRuns where a room isn't right. -/
import Derived.Test.YtpgcadceljalpaaFLanesRuns
import Derived.Test.YtpgcadceljalpaaLnRow
namespace Go.Proofs.Ytpgcadceljalpaa
open Go.RowKit Go.Joins

def RmsRel (w : World) (r : Nat → Int) (kv : Value) (wr : World) : Prop := ∃ k : Nat, kv = .int .i64 (k : Int) ∧ k ≤ 8 ∧ okR r k ∧ Below w.heap.size w wr
set_option maxRecDepth 20000 in
set_option maxHeartbeats 8000000 in
theorem lruns_no (r : Nat → Int) (p : Option Addr) (n c : Nat) (w : World) (h : ¬ okR r 8) :
    Calls Try.prog 3 #[a8 r, .slice p n c] w fun e w' => e = .returned (.bool true) ∧ Below w.heap.size w w' := by
  have HH := Lib.hid lhead_ret
  have HE : Hid (∀ n W, Calls Try.prog 10 #[.int .i64 n] W fun e w' => e = .returned (V8 n n n n n n n n) ∧ Below W.heap.size W w') := Lib.hid (fun n W => eight_ret n W)
  have HN : Hid (∀ W, Calls Try.prog 8 #[.agg #[.int .i64 (r 0), .int .i64 (r 1), .int .i64 (r 2), .int .i64 (r 3), .int .i64 (r 4), .int .i64 (r 5), .int .i64 (r 6), .int .i64 (r 7)]] W fun e w' => e = .returned (.tuple #[.pointer none, .int .i64 1]) ∧ Below W.heap.size W w') := Lib.hid (fun W => new_no r h W)
  have HPk : Hid (∀ W, Calls Try.prog 9 #[.pointer none, V8 1073741824 1073741824 1073741824 1073741824 1073741824 1073741824 1073741824 1073741824] W fun e w' => e = .returned (.tuple #[.int .i64 0, .agg #[.int .i64 0, .int .i64 0, .bool false], .bool false]) ∧ Below W.heap.size W w') := Lib.hid (fun W => pick_nil (fun _ => 1073741824) W)
  have HPt : Hid (∀ W, Calls Try.prog 11 #[.pointer none, .int .i64 0, .agg #[.int .i64 0, .int .i64 0, .bool false]] W fun e w' => e = .returned (.int .i64 1) ∧ Below W.heap.size W w') := Lib.hid (fun W => put_nil 0 it0 W)
  have HC := Lib.hid clear_nil
  have HL := Lib.hid (len_nil 0)
  have HLo := Lib.hid (lost_nil 0)
  have K0 : Hid ((w.alloc (o8 r)).heap[w.heap.size]? = some (o8 r)) := Lib.hid (heap_alloc_one' w _)
  have HI : Hid (∀ k : Nat, k < 8 → ∀ W, (Instr.index 22 (.agg #[.int .i64 (r 0), .int .i64 (r 1), .int .i64 (r 2), .int .i64 (r 3), .int .i64 (r 4), .int .i64 (r 5), .int .i64 (r 6), .int .i64 (r 7)]) (.int .i64 (k : Int))).run Try.prog W = .ok (.int .i64 (r k)) W) := Lib.hid (fun k hk W => a8_index r k hk W)
  have HB8 := Lib.hid h
  clear h
  unfold a8
  go_enter Try.func3, Try.ntmps3
  go_wp2_with (first
    | (go_at_call 7; (with_reducible refine (HH.out _).mono ?_); rintro e x1 ⟨rfl, hb⟩; have HB := Lib.hid (bTr (bAl (bRef w) (o8 r)) hb); have K1 := Lib.hid ((hb.block _ (lt_of_heap K0.out)).trans K0.out); have c0 := o8_cells r K1.out (k := 0) (by decide); have c1 := o8_cells r K1.out (k := 1) (by decide); have c2 := o8_cells r K1.out (k := 2) (by decide); have c3 := o8_cells r K1.out (k := 3) (by decide); have c4 := o8_cells r K1.out (k := 4) (by decide); have c5 := o8_cells r K1.out (k := 5) (by decide); have c6 := o8_cells r K1.out (k := 6) (by decide); have c7 := o8_cells r K1.out (k := 7) (by decide); clear hb)
    | (go_at_call 8; (with_reducible refine (HN.out _).mono ?_); rintro e x2 ⟨rfl, hb⟩; have HB2 := Lib.hid (bTr HB.out hb); have K2 := Lib.hid ((hb.block _ (lt_of_heap K1.out)).trans K1.out); have e0 := o8_cells r K2.out (k := 0) (by decide); have e1 := o8_cells r K2.out (k := 1) (by decide); have e2 := o8_cells r K2.out (k := 2) (by decide); have e3 := o8_cells r K2.out (k := 3) (by decide); have e4 := o8_cells r K2.out (k := 4) (by decide); have e5 := o8_cells r K2.out (k := 5) (by decide); have e6 := o8_cells r K2.out (k := 6) (by decide); have e7 := o8_cells r K2.out (k := 7) (by decide); clear hb))
  go_loopw [40] (fun kv wr => RmsRel w r kv wr) (fun kv _ => 8 - (intOf kv).toNat)
  case atStart => exact ⟨0, rfl, by omega, fun i hi => by omega, HB2.out⟩
  case round =>
    clear HB HB2 K0 K1 K2 HN HH c0 c1 c2 c3 c4 c5 c6 c7 e0 e1 e2 e3 e4 e5 e6 e7
    obtain ⟨k, rfl, hk, ho, hb⟩ := hrel
    have HB := Lib.hid hb
    have HO := Lib.hid ho
    have hk8 : k < 8 := by
      rcases Nat.lt_or_ge k 8 with g | g
      · exact g
      · obtain rfl : k = 8 := by omega
        exact absurd ho HB8.out
    clear hb ho
    have hd : decide ((k : Int) < 8) = true := decide_eq_true (by omega)
    have hI := HI.out k hk8
    have ARMS : True := trivial
    by_cases h0 : r k < 0
    · have d1 : decide (r k < 0) = true := decide_eq_true h0
      clear h0
      go_wp2_with (first
        | (go_at_call 10; (with_reducible refine (HE.out 1073741824 _).mono ?_); rintro e y1 ⟨rfl, hb⟩; have HB1 := Lib.hid (bTr HB.out hb); clear hb)
        | (go_at_call 9; (with_reducible refine (HPk.out _).mono ?_); rintro e y2 ⟨rfl, hb⟩; have HB2 := Lib.hid (bAl (bTr HB1.out hb) (.cells #[.int .i64 0, .int .i64 0, .bool false] 30)); clear hb)
        | (go_at_call 11; (with_reducible refine (HPt.out _).mono ?_); rintro e y3 ⟨rfl, hb⟩; have HB3 := Lib.hid (bTr HB2.out hb); clear hb)
        | (go_at_call 12; (with_reducible refine (HC.out _).mono ?_); rintro e y4 ⟨rfl, rfl⟩)
        | (go_at_call 13; (with_reducible refine (HL.out _).mono ?_); rintro e y5 ⟨rfl, rfl⟩)
        | (go_at_call 14; (with_reducible refine (HLo.out _).mono ?_); rintro e y6 ⟨rfl, rfl⟩))
      go_ret
      exact ⟨rfl, HB3.out⟩
    · have d1 : decide (r k < 0) = false := decide_eq_false h0
      by_cases h1 : 4096 < r k
      · have d2 : decide (4096 < r k) = true := decide_eq_true h1
        clear h0 h1
        go_wp2_with (first
          | (go_at_call 10; (with_reducible refine (HE.out 1073741824 _).mono ?_); rintro e y1 ⟨rfl, hb⟩; have HB1 := Lib.hid (bTr HB.out hb); clear hb)
          | (go_at_call 9; (with_reducible refine (HPk.out _).mono ?_); rintro e y2 ⟨rfl, hb⟩; have HB2 := Lib.hid (bAl (bTr HB1.out hb) (.cells #[.int .i64 0, .int .i64 0, .bool false] 30)); clear hb)
          | (go_at_call 11; (with_reducible refine (HPt.out _).mono ?_); rintro e y3 ⟨rfl, hb⟩; have HB3 := Lib.hid (bTr HB2.out hb); clear hb)
          | (go_at_call 12; (with_reducible refine (HC.out _).mono ?_); rintro e y4 ⟨rfl, rfl⟩)
          | (go_at_call 13; (with_reducible refine (HL.out _).mono ?_); rintro e y5 ⟨rfl, rfl⟩)
          | (go_at_call 14; (with_reducible refine (HLo.out _).mono ?_); rintro e y6 ⟨rfl, rfl⟩))
        go_ret
        exact ⟨rfl, HB3.out⟩
      · have d2 : decide (4096 < r k) = false := decide_eq_false h1
        have HO2 : Hid (okR r (k + 1)) := Lib.hid (fun i hi => by
          rcases Nat.lt_or_ge i k with g | g
          · exact HO.out i g
          · obtain rfl : i = k := by omega
            omega)
        clear h0 h1
        go_wp2_with fail
        go_roundw
        case rel => exact ⟨k + 1, by go_num, by omega, HO2.out, HB.out⟩
        case measure => simp [intOf]; omega

end Go.Proofs.Ytpgcadceljalpaa
