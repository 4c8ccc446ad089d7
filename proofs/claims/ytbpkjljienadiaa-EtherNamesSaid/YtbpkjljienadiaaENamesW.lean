/- EtherNames: addresses as numbers, and back. -/
import Derived.Test.YtbpkjljienadiaaENames
import Derived.Deep.RegionHeld3
import Derived.Deep.DeepCutAuto
import Derived.Laws.StructEq
namespace Go.Proofs.Ytbpkjljienadiaa
open Go.RowKit Go.Joins

/-- Two addresses in blocks of the call's own. -/
def NM (w : World) (g : Nat) (y0 y1 y2 y3 y4 y5 z0 z1 z2 z3 z4 z5 : Nat) (W : World) : Prop :=
  W.heap[w.heap.size]? = some (.cells #[.int .u8 (y0 : Int), .int .u8 (y1 : Int), .int .u8 (y2 : Int), .int .u8 (y3 : Int), .int .u8 (y4 : Int), .int .u8 (y5 : Int)] 23 (0, 0)) ∧ W.heap[g]? = some (.cells #[.int .u8 (z0 : Int), .int .u8 (z1 : Int), .int .u8 (z2 : Int), .int .u8 (z3 : Int), .int .u8 (z4 : Int), .int .u8 (z5 : Int)] 23 (0, 0)) ∧ Below w.heap.size w W
section
variable {w W W' : World} {g : Nat} {y0 y1 y2 y3 y4 y5 z0 z1 z2 z3 z4 z5 : Nat}
theorem NM.call (h : NM w g y0 y1 y2 y3 y4 y5 z0 z1 z2 z3 z4 z5 W) (hb : Below W.heap.size W W') : NM w g y0 y1 y2 y3 y4 y5 z0 z1 z2 z3 z4 z5 W' :=
  ⟨Oth.below hb _ _ _ _ h.1 (by decide), Oth.below hb _ _ _ _ h.2.1 (by decide), bTr h.2.2 hb⟩
theorem NM.bel (h : NM w g y0 y1 y2 y3 y4 y5 z0 z1 z2 z3 z4 z5 W) : Below w.heap.size w W := h.2.2
theorem NM.drew (h : NM w g y0 y1 y2 y3 y4 y5 z0 z1 z2 z3 z4 z5 W) : NM w g y0 y1 y2 y3 y4 y5 z0 z1 z2 z3 z4 z5 W.drew := ⟨h.1, h.2.1, bDr1 h.2.2⟩
theorem NM.cells (h : NM w g y0 y1 y2 y3 y4 y5 z0 z1 z2 z3 z4 z5 W) : W.cell? ⟨w.heap.size, 0, none⟩ = some (.int .u8 (y0 : Int)) ∧ W.cell? ⟨w.heap.size, 1, none⟩ = some (.int .u8 (y1 : Int)) ∧ W.cell? ⟨w.heap.size, 2, none⟩ = some (.int .u8 (y2 : Int)) ∧ W.cell? ⟨w.heap.size, 3, none⟩ = some (.int .u8 (y3 : Int)) ∧ W.cell? ⟨w.heap.size, 4, none⟩ = some (.int .u8 (y4 : Int)) ∧ W.cell? ⟨w.heap.size, 5, none⟩ = some (.int .u8 (y5 : Int)) ∧ W.cell? ⟨g, 0, none⟩ = some (.int .u8 (z0 : Int)) ∧ W.cell? ⟨g, 1, none⟩ = some (.int .u8 (z1 : Int)) ∧ W.cell? ⟨g, 2, none⟩ = some (.int .u8 (z2 : Int)) ∧ W.cell? ⟨g, 3, none⟩ = some (.int .u8 (z3 : Int)) ∧ W.cell? ⟨g, 4, none⟩ = some (.int .u8 (z4 : Int)) ∧ W.cell? ⟨g, 5, none⟩ = some (.int .u8 (z5 : Int)) ∧ NM w g y0 y1 y2 y3 y4 y5 z0 z1 z2 z3 z4 z5 W :=
  ⟨cell_of_row W _ 0 _ _ _ h.1, cell_of_row W _ 1 _ _ _ h.1, cell_of_row W _ 2 _ _ _ h.1, cell_of_row W _ 3 _ _ _ h.1, cell_of_row W _ 4 _ _ _ h.1, cell_of_row W _ 5 _ _ _ h.1, cell_of_row W _ 0 _ _ _ h.2.1, cell_of_row W _ 1 _ _ _ h.2.1, cell_of_row W _ 2 _ _ _ h.2.1, cell_of_row W _ 3 _ _ _ h.2.1, cell_of_row W _ 4 _ _ _ h.2.1, cell_of_row W _ 5 _ _ _ h.2.1, h⟩
end

set_option maxHeartbeats 1000000 in
theorem eqMac (y0 y1 y2 y3 y4 y5 : Nat) (w : World) : (Op.equalIn 10000 23 (.agg #[.int .u8 (y0 : Int), .int .u8 (y1 : Int), .int .u8 (y2 : Int), .int .u8 (y3 : Int), .int .u8 (y4 : Int), .int .u8 (y5 : Int)]) (.agg #[.int .u8 (y0 : Int), .int .u8 (y1 : Int), .int .u8 (y2 : Int), .int .u8 (y3 : Int), .int .u8 (y4 : Int), .int .u8 (y5 : Int)])).run Try.prog w = .ok true w := by
  have u3 := Try.underlying5
  have a3 := Try.isAgg5
  have z3 := Try.sizeOf5
  rw [show (10000 : Nat) = 9999 + 1 from rfl, Op.equalIn]
  simp only [Sem.run_bind, run_underlying Try.underlying23, Result.andThen_ok]
  simp only [Std.Legacy.Range.forIn_eq_forIn_range', Std.Legacy.Range.size, Nat.sub_zero, Nat.add_sub_cancel, Nat.div_one, List.range'_succ, List.range'_zero, List.forIn_cons, List.forIn_nil]
  go_simp
  try simp

def NRel (y0 y1 y2 y3 y4 y5 : Nat) (nv iv : Value) : Prop :=
  ∃ j : Nat, j ≤ 6 ∧ iv = .int .i64 (j : Int) ∧ nv = .int .i64 ((num ([y0, y1, y2, y3, y4, y5].take j) : Nat) : Int)

set_option maxHeartbeats 4000000 in
theorem names_mid (y0 y1 y2 y3 y4 y5 z0 z1 z2 z3 z4 z5 N low : Nat) (x : Int) (w : World) (gr : Bool)
    (HN258 : Hid (Ret 21 #[.agg #[.int .u8 0, .int .u8 0, .int .u8 0, .int .u8 0, .int .u8 1, .int .u8 2]] (.int .i64 258)))
    (HNy : Hid (Ret 21 #[.agg #[.int .u8 (y0 : Int), .int .u8 (y1 : Int), .int .u8 (y2 : Int), .int .u8 (y3 : Int), .int .u8 (y4 : Int), .int .u8 (y5 : Int)]] (.int .i64 (N : Int)))) (HNz : Hid (Ret 21 #[.agg #[.int .u8 (z0 : Int), .int .u8 (z1 : Int), .int .u8 (z2 : Int), .int .u8 (z3 : Int), .int .u8 (z4 : Int), .int .u8 (z5 : Int)]] (.int .i64 (low : Int))))
    (HOx : Hid (Ret 22 #[.int .i64 x] (.agg #[.int .u8 (z0 : Int), .int .u8 (z1 : Int), .int .u8 (z2 : Int), .int .u8 (z3 : Int), .int .u8 (z4 : Int), .int .u8 (z5 : Int)]))) (HON : Hid (Ret 22 #[.int .i64 (N : Int)] (.agg #[.int .u8 (y0 : Int), .int .u8 (y1 : Int), .int .u8 (y2 : Int), .int .u8 (y3 : Int), .int .u8 (y4 : Int), .int .u8 (y5 : Int)])))
    (HG : Hid (Ret 23 #[.agg #[.int .u8 (y0 : Int), .int .u8 (y1 : Int), .int .u8 (y2 : Int), .int .u8 (y3 : Int), .int .u8 (y4 : Int), .int .u8 (y5 : Int)]] (.bool gr))) (hgr : ((y0 : Int).tmod 2 == 1) = gr)
    (hy : Hid (Crc.Bytes [y0, y1, y2, y3, y4, y5])) (hN : Hid (N = num [y0, y1, y2, y3, y4, y5])) (hlow : bits BinOp.and IntKind.i64 x 281474976710655 = (low : Int))
    (_ : y0 < 256) (_ : y1 < 256) (_ : y2 < 256) (_ : y3 < 256) (_ : y4 < 256) (_ : y5 < 256) :
    Calls Try.prog 6 #[.agg #[.int .u8 (y0 : Int), .int .u8 (y1 : Int), .int .u8 (y2 : Int), .int .u8 (y3 : Int), .int .u8 (y4 : Int), .int .u8 (y5 : Int)], .int .i64 x] w fun e w' => e = .returned (.bool true) ∧ Below w.heap.size w w' := by
  go_enter Try.func6, Try.ntmps6
  go_wp2_with (first
    | (go_at_call 21; (with_reducible refine (HN258.out.go _).mono ?_); rintro e w1 ⟨rfl, hb⟩; have HB := Lib.hid (bTr (bAl (bRef w) _) hb); have HR := Lib.hid (keepZ hb); clear hb))
  go_loop [5, 6] (fun nv iv => NRel y0 y1 y2 y3 y4 y5 nv iv) (fun _ iv => 6 - (intOf iv).toNat)
  case atStart => exact ⟨0, by omega, rfl, rfl⟩
  case round =>
    obtain ⟨j, hj, rfl, rfl⟩ := hrel
    have hP := num_small (Crc.bytes_take hy.out j) (by rw [List.length_take]; simp; omega)
    obtain ⟨P, hPe⟩ : ∃ P, P = num ([y0, y1, y2, y3, y4, y5].take j) := ⟨_, rfl⟩
    rw [← hPe] at hP ⊢
    have HP := Lib.hid hPe
    clear hPe
    have hj6 : j = 0 ∨ j = 1 ∨ j = 2 ∨ j = 3 ∨ j = 4 ∨ j = 5 ∨ j = 6 := by omega
    rcases hj6 with rfl | rfl | rfl | rfl | rfl | rfl | rfl
    · have hc := cell_of_row w1 w.heap.size 0 _ _ _ HR.out
      simp only [List.getElem?_toArray, List.getElem?_cons_succ, List.getElem?_cons_zero] at hc
      go_wp2_with fail
      go_round
      case rel => exact ⟨1, by omega, rfl, congrArg (Value.int .i64) (by have e : num ([y0, y1, y2, y3, y4, y5].take 1) = num ([y0, y1, y2, y3, y4, y5].take 0) * 256 + y0 := rfl; rw [e, ← HP.out]; omega)⟩
      case measure => simp [intOf]
    · have hc := cell_of_row w1 w.heap.size 1 _ _ _ HR.out
      simp only [List.getElem?_toArray, List.getElem?_cons_succ, List.getElem?_cons_zero] at hc
      go_wp2_with fail
      go_round
      case rel => exact ⟨2, by omega, rfl, congrArg (Value.int .i64) (by have e : num ([y0, y1, y2, y3, y4, y5].take 2) = num ([y0, y1, y2, y3, y4, y5].take 1) * 256 + y1 := rfl; rw [e, ← HP.out]; omega)⟩
      case measure => simp [intOf]
    · have hc := cell_of_row w1 w.heap.size 2 _ _ _ HR.out
      simp only [List.getElem?_toArray, List.getElem?_cons_succ, List.getElem?_cons_zero] at hc
      go_wp2_with fail
      go_round
      case rel => exact ⟨3, by omega, rfl, congrArg (Value.int .i64) (by have e : num ([y0, y1, y2, y3, y4, y5].take 3) = num ([y0, y1, y2, y3, y4, y5].take 2) * 256 + y2 := rfl; rw [e, ← HP.out]; omega)⟩
      case measure => simp [intOf]
    · have hc := cell_of_row w1 w.heap.size 3 _ _ _ HR.out
      simp only [List.getElem?_toArray, List.getElem?_cons_succ, List.getElem?_cons_zero] at hc
      go_wp2_with fail
      go_round
      case rel => exact ⟨4, by omega, rfl, congrArg (Value.int .i64) (by have e : num ([y0, y1, y2, y3, y4, y5].take 4) = num ([y0, y1, y2, y3, y4, y5].take 3) * 256 + y3 := rfl; rw [e, ← HP.out]; omega)⟩
      case measure => simp [intOf]
    · have hc := cell_of_row w1 w.heap.size 4 _ _ _ HR.out
      simp only [List.getElem?_toArray, List.getElem?_cons_succ, List.getElem?_cons_zero] at hc
      go_wp2_with fail
      go_round
      case rel => exact ⟨5, by omega, rfl, congrArg (Value.int .i64) (by have e : num ([y0, y1, y2, y3, y4, y5].take 5) = num ([y0, y1, y2, y3, y4, y5].take 4) * 256 + y4 := rfl; rw [e, ← HP.out]; omega)⟩
      case measure => simp [intOf]
    · have hc := cell_of_row w1 w.heap.size 5 _ _ _ HR.out
      simp only [List.getElem?_toArray, List.getElem?_cons_succ, List.getElem?_cons_zero] at hc
      go_wp2_with fail
      go_round
      case rel => exact ⟨6, by omega, rfl, congrArg (Value.int .i64) (by have e : num ([y0, y1, y2, y3, y4, y5].take 6) = num ([y0, y1, y2, y3, y4, y5].take 5) * 256 + y5 := rfl; rw [e, ← HP.out]; omega)⟩
      case measure => simp [intOf]
    · obtain rfl : P = N := HP.out.trans hN.out.symm
      go_wp2_with (first
        | (go_at_call 22; (with_reducible refine (HOx.out.go _).mono ?_); rintro e w2 ⟨rfl, hb⟩; replace HR := Lib.hid (Oth.below hb _ _ _ _ HR.out (by decide)); replace HB := Lib.hid (bTr HB.out hb); clear hb))
      have H0 : NM w w2.heap.size y0 y1 y2 y3 y4 y5 z0 z1 z2 z3 z4 z5 (w2.alloc (.cells #[.int .u8 (z0 : Int), .int .u8 (z1 : Int), .int .u8 (z2 : Int), .int .u8 (z3 : Int), .int .u8 (z4 : Int), .int .u8 (z5 : Int)] 23)) := ⟨Oth.below (bAl (bRef w2) _) _ _ _ _ HR.out (by decide), heap_alloc_new w2 _, bAl HB.out _⟩
      clear HR HB HP hN hy HOx HN258
      have heq := eqMac y0 y1 y2 y3 y4 y5
      go_region_held3 (fun W => W.cell? ⟨w.heap.size, 0, none⟩ = some (.int .u8 (y0 : Int)) ∧ W.cell? ⟨w.heap.size, 1, none⟩ = some (.int .u8 (y1 : Int)) ∧ W.cell? ⟨w.heap.size, 2, none⟩ = some (.int .u8 (y2 : Int)) ∧ W.cell? ⟨w.heap.size, 3, none⟩ = some (.int .u8 (y3 : Int)) ∧ W.cell? ⟨w.heap.size, 4, none⟩ = some (.int .u8 (y4 : Int)) ∧ W.cell? ⟨w.heap.size, 5, none⟩ = some (.int .u8 (y5 : Int)) ∧ W.cell? ⟨w2.heap.size, 0, none⟩ = some (.int .u8 (z0 : Int)) ∧ W.cell? ⟨w2.heap.size, 1, none⟩ = some (.int .u8 (z1 : Int)) ∧ W.cell? ⟨w2.heap.size, 2, none⟩ = some (.int .u8 (z2 : Int)) ∧ W.cell? ⟨w2.heap.size, 3, none⟩ = some (.int .u8 (z3 : Int)) ∧ W.cell? ⟨w2.heap.size, 4, none⟩ = some (.int .u8 (z4 : Int)) ∧ W.cell? ⟨w2.heap.size, 5, none⟩ = some (.int .u8 (z5 : Int)) ∧ NM w w2.heap.size y0 y1 y2 y3 y4 y5 z0 z1 z2 z3 z4 z5 W)
        (first | exact H0.drew.cells | (go_split_ands; first | exact (NM.call (by assumption) hb1).cells | exact (NM.call (by assumption) hb2).cells | exact (NM.call (by assumption) hb3).cells | exact (NM.call (by assumption) hb4).cells))
        (first | (go_at_call 21; (with_reducible refine (HNy.out.go _).mono ?_); rintro e w3 ⟨rfl, hb1⟩) | (go_at_call 21; (with_reducible refine (HNz.out.go _).mono ?_); rintro e w4 ⟨rfl, hb2⟩) | (go_at_call 22; (with_reducible refine (HON.out.go _).mono ?_); rintro e w5 ⟨rfl, hb3⟩) | (go_at_call 23; (with_reducible refine (HG.out.go _).mono ?_); rintro e w6 ⟨rfl, hb4⟩))
      go_split_ands
      go_wp2_with fail
      go_ret
      exact ⟨rfl, NM.bel (by assumption)⟩

theorem of_num (y0 y1 y2 y3 y4 y5 : Nat) (h0 : y0 < 256) (h1 : y1 < 256) (h2 : y2 < 256) (h3 : y3 < 256) (h4 : y4 < 256) (h5 : y5 < 256) : ∀ k, k < 6 → ofB ((num [y0, y1, y2, y3, y4, y5] : Nat) : Int) k = [y0, y1, y2, y3, y4, y5].getD k 0 := by
  have e : num [y0, y1, y2, y3, y4, y5] = ((((y0 * 256 + y1) * 256 + y2) * 256 + y3) * 256 + y4) * 256 + y5 := by
    show ((((((0 * 256 + y0) * 256 + y1) * 256 + y2) * 256 + y3) * 256 + y4) * 256 + y5) = _; omega
  intro k hk
  rw [e]
  have hk6 : k = 0 ∨ k = 1 ∨ k = 2 ∨ k = 3 ∨ k = 4 ∨ k = 5 := by omega
  unfold ofB
  rcases hk6 with rfl | rfl | rfl | rfl | rfl | rfl <;> simp only [Nat.reduceSub, Int.reducePow, List.getD_cons_zero, List.getD_cons_succ] <;> omega
theorem num_of (x : Int) : ((num [ofB x 0, ofB x 1, ofB x 2, ofB x 3, ofB x 4, ofB x 5] : Nat) : Int) = x % 281474976710656 := by
  have e : num [ofB x 0, ofB x 1, ofB x 2, ofB x 3, ofB x 4, ofB x 5] = ((((ofB x 0 * 256 + ofB x 1) * 256 + ofB x 2) * 256 + ofB x 3) * 256 + ofB x 4) * 256 + ofB x 5 := by
    show ((((((0 * 256 + ofB x 0) * 256 + ofB x 1) * 256 + ofB x 2) * 256 + ofB x 3) * 256 + ofB x 4) * 256 + ofB x 5) = _; omega
  rw [e]
  have h0 := ofB_cast x 0
  have h1 := ofB_cast x 1
  have h2 := ofB_cast x 2
  have h3 := ofB_cast x 3
  have h4 := ofB_cast x 4
  have h5 := ofB_cast x 5
  simp only [Nat.reduceSub, Int.reducePow] at h0 h1 h2 h3 h4 h5
  omega
theorem ofB_lt (x : Int) (k : Nat) : ofB x k < 256 := by unfold ofB; omega

theorem names_walk (y0 y1 y2 y3 y4 y5 : Nat) (a : Int) (w : World) (h0 : y0 < 256) (h1 : y1 < 256) (h2 : y2 < 256) (h3 : y3 < 256) (h4 : y4 < 256) (h5 : y5 < 256) (l1 : -9223372036854775808 ≤ a) (l2 : a < 9223372036854775808) :
    Calls Try.prog 6 #[.agg #[.int .u8 (y0 : Int), .int .u8 (y1 : Int), .int .u8 (y2 : Int), .int .u8 (y3 : Int), .int .u8 (y4 : Int), .int .u8 (y5 : Int)], .int .i64 a] w fun e w' => e = .returned (.bool true) ∧ Below w.heap.size w w' := by
  have hb : Crc.Bytes [y0, y1, y2, y3, y4, y5] := by
    intro z hz
    simp only [List.mem_cons, List.not_mem_nil, or_false] at hz
    rcases hz with rfl | rfl | rfl | rfl | rfl | rfl <;> assumption
  have hz : Crc.Bytes [ofB a 0, ofB a 1, ofB a 2, ofB a 3, ofB a 4, ofB a 5] := by
    intro z hz
    simp only [List.mem_cons, List.not_mem_nil, or_false] at hz
    rcases hz with rfl | rfl | rfl | rfl | rfl | rfl <;> exact ofB_lt _ _
  have hN := num_small hb (by simp)
  have ho := of_ret ((num [y0, y1, y2, y3, y4, y5] : Nat) : Int) (by omega) (by omega)
  have hk := of_num y0 y1 y2 y3 y4 y5 h0 h1 h2 h3 h4 h5
  rw [hk 0 (by omega), hk 1 (by omega), hk 2 (by omega), hk 3 (by omega), hk 4 (by omega), hk 5 (by omega)] at ho
  have hlow := and_low a 48 (by omega)
  change bits .and .i64 a 281474976710655 = a % 281474976710656 at hlow
  refine names_mid y0 y1 y2 y3 y4 y5 (ofB a 0) (ofB a 1) (ofB a 2) (ofB a 3) (ofB a 4) (ofB a 5) (num [y0, y1, y2, y3, y4, y5]) (num [ofB a 0, ofB a 1, ofB a 2, ofB a 3, ofB a 4, ofB a 5]) a w _
    (Lib.hid (num_mac 0 0 0 0 1 2 (fun z hz => by simp at hz; omega))) (Lib.hid (num_mac y0 y1 y2 y3 y4 y5 hb)) (Lib.hid (num_mac _ _ _ _ _ _ hz)) (Lib.hid (of_ret a l1 l2)) (Lib.hid ho)
    (Lib.hid (group_ret y0 y1 y2 y3 y4 y5 h0)) ?_ (Lib.hid hb) (Lib.hid rfl) (hlow.trans (num_of a).symm) h0 h1 h2 h3 h4 h5
  rw [Int.tmod_eq_emod_of_nonneg (by omega)]
  by_cases g : y0 % 2 = 1
  · rw [decide_eq_true g, beq_iff_eq]; omega
  · rw [decide_eq_false g, beq_eq_false_iff_ne]; omega

end Go.Proofs.Ytbpkjljienadiaa
