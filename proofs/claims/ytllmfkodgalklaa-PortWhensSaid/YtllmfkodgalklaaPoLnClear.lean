/- Package lanes: Clear; Pick of no lanes. -/
import Derived.Test.YtllmfkodgalklaaPoLnPick
namespace Go.Proofs.Ytllmfkodgalklaa
open Go.RowKit Go.Joins

theorem Try.infoSl : (Try.prog.info? 79).map (fun i => (i.zero, i.size, i.bytes)) = some (some (.slice none 0 0), 1, 24) := by kernel_rfl
/-- How many wait in the first k classes. -/
def LS.tot (s : LS) : Nat → Nat
  | 0 => 0
  | k + 1 => s.tot k + (s.q k).length
theorem LS.Good.tot {s : LS} (g : s.Good) : ∀ k, k ≤ 8 → s.tot k ≤ k * 4096
  | 0, _ => Nat.zero_le _
  | k + 1, h => by
    have := g.tot k (by omega)
    have := g.ln k (by omega)
    show s.tot k + (s.q k).length ≤ _
    omega
def LS.none (s : LS) : LS := { s with q := fun _ => [] }
theorem run_clear {w : World} {b : Nat} {s : LS} {sl : Nat → Value} (h : w.heap[b]? = some (.cells (lrow s sl) 82 (0, 0))) (ty : TypeId) :
    (Builtin.clear_ #[95] ty #[.slice (some ⟨b, 8, none⟩) 8 8]).run Try.prog w = .ok (.tuple #[]) (w.setRow b (lrow s (fun _ => .slice none 0 0))) := by
  obtain ⟨i0, hi, hz0, hz1, hz2⟩ := info_parts Try.infoSl
  have hst := run_storeCells_at Try.prog b 8 82 (List.replicate 8 (.slice none 0 0)) 0 (lrow s sl) w h (by simp [lrow]) (by simp [Value.oneCell'])
  simp only [Nat.add_zero] at hst
  have e : (Builtin.zeroCells (Value.cells (.slice none 0 0)) 8).toList = List.replicate 8 (.slice none 0 0) := by kernel_rfl
  simp [Builtin.clear_, run_underlying Try.underlying95, zeroValue, typeInfo, hi, hz0]
  rw [e, hst]
  rfl
theorem LnI.none {w : World} {b : Nat} {F : Nat → Prop} {s : LS} {sl : Nat → Value} (h : LnI w b F s sl) : LnI (w.setRow b (lrow s (fun _ => .slice none 0 0))) b F s.none (fun _ => .slice none 0 0) :=
  ⟨setRow_heap w b _ _ _ _ h.box, fun _ _ => .inl ⟨rfl, rfl⟩, fun _ _ _ _ _ _ h => by (cases h), h.fb, fun k hk => by have := h.top k hk; simpa using this⟩
theorem but_row {F : Nat → Prop} {w : World} {b : Nat} (hf : F b) (cs : Array Value) : ButP F w (w.setRow b cs) :=
  ⟨rfl, rfl, rfl, by simp, fun k _ hn => setRow_other w b k cs (fun e => hn (by rw [e]; exact hf))⟩
def ClRel (w : World) (s : LS) (sv kv : Value) (wr : World) : Prop := ∃ k : Nat, k ≤ 8 ∧ kv = .int .i64 (k : Int) ∧ sv = .int .i64 (s.tot k : Int) ∧ wr = w
theorem clear_nil (w : World) : Calls Try.prog 41 #[.pointer none] w fun e w' => e = .returned (.int .i64 0) ∧ w' = w := by
  go_enter Try.func41, Try.ntmps41
  go_wp2_with fail
  go_ret
  exact ⟨rfl, rfl⟩
section
variable {w : World} {b : Nat} {F : Nat → Prop} {s : LS}
set_option maxHeartbeats 2000000 in
theorem clear_any (h : Ln w b F s) (G : s.Good) : Calls Try.prog 41 #[.pointer (some ⟨b, 0, none⟩)] w fun e w' => e = .returned (.int .i64 (s.tot 8 : Int)) ∧ Ln w' b F s.none ∧ ButP F w w' := by
  have HL := Lib.hid (fun c (hc : c < 8) => len_yes h c hc)
  have HG := Lib.hid G
  obtain ⟨sl, h⟩ := h
  have hr := fun ty => run_clear h.box ty
  have H := Lib.hid h
  clear h G
  go_enter Try.func41, Try.ntmps41
  go_wp2_with fail
  go_loopw [3, 7] (fun sv kv wr => ClRel w s sv kv wr) (fun _ kv _ => 8 - (intOf kv).toNat)
  case atStart => exact ⟨0, by omega, rfl, rfl, rfl⟩
  case round =>
    obtain ⟨k, hk, rfl, rfl, rfl⟩ := hrel
    have ht := HG.out.tot k hk
    rcases Nat.lt_or_ge k 8 with g1 | g1
    · have hd : decide ((k : Int) < 8) = true := decide_eq_true (by omega)
      have HK := Lib.hid (HL.out k g1)
      have hn := HG.out.ln k g1
      have es : (s.tot (k + 1) : Int) = (s.tot k : Int) + ((s.q k).length : Int) := by
        show ((s.tot k + (s.q k).length : Nat) : Int) = _
        omega
      have HES := Lib.hid es
      generalize s.tot k = t at *
      generalize (s.q k).length = n at *
      have ew : wrap64 ((t : Int) + (n : Int)) = (t : Int) + (n : Int) := by unfold wrap64; omega
      clear es hr
      go_wp2_with (go_at_call 24; (with_reducible refine HK.out.mono ?_); rintro e w1 ⟨rfl, rfl⟩)
      go_roundw
      case rel => exact ⟨k + 1, by omega, by go_num, by rw [HES.out], rfl⟩
      case measure => simp [intOf]; omega
    · have hd : decide ((k : Int) < 8) = false := decide_eq_false (by omega)
      obtain rfl : k = 8 := by omega
      obtain ⟨t, htt⟩ : ∃ t, s.tot 8 = t := ⟨_, rfl⟩
      have HTT := Lib.hid htt
      rw [htt]
      clear htt
      go_wp2_with fail
      go_ret
      exact ⟨by rw [HTT.out]; rfl, ⟨_, H.out.none⟩, but_row H.out.fb _⟩
end
set_option maxHeartbeats 2000000 in
theorem pick_nil (left : Nat → Int) (w : World) : Calls Try.prog 22 #[.pointer none, a8 left] w fun e w' => e = .returned (.tuple #[.int .i64 0, itv it0, .bool false]) ∧ Below w.heap.size w w' := by
  unfold a8
  go_enter Try.func22, Try.ntmps22
  go_wp2_with fail
  go_loopw [7] (fun kv wr => PkRel w (LS.new (fun _ => 0)) left kv wr) (fun kv _ => (intOf kv + 1).toNat)
  case atStart => exact ⟨8, by omega, rfl, fun d h1 h2 => by omega, (heap_alloc_old (w.alloc _) _ (by simp)).trans (heap_alloc_one' w _), heap_alloc_two' _ _ _, bAl (bAl (bRef w) _) _⟩
  case round =>
    obtain ⟨k, hk, rfl, hno, hl, hr, hb⟩ := hrel
    have HNO := Lib.hid hno
    have HL := Lib.hid hl
    have HR := Lib.hid hr
    have HB := Lib.hid hb
    clear hno hl hr hb
    have hr := HR.out
    have r0 : wr.cell? ⟨w.heap.size + 1, 0, none⟩ = some (.int .i64 0) := cell_of_row _ _ _ _ _ _ hr
    have r1 : wr.cell? ⟨w.heap.size + 1, 1, none⟩ = some (.int .i64 0) := cell_of_row _ _ _ _ _ _ hr
    have r2 : wr.cell? ⟨w.heap.size + 1, 2, none⟩ = some (.bool false) := cell_of_row _ _ _ _ _ _ hr
    have f0 : wr.frozen? ⟨w.heap.size + 1, 0, none⟩ = false := frozen_of_row _ _ _ _ _ hr
    have f1 : wr.frozen? ⟨w.heap.size + 1, 1, none⟩ = false := frozen_of_row _ _ _ _ _ hr
    have f2 : wr.frozen? ⟨w.heap.size + 1, 2, none⟩ = false := frozen_of_row _ _ _ _ _ hr
    rcases k with _ | k
    · clear hr
      go_wp2_with fail
      exact bodyPick rfl rfl rfl (set3_row HR.out _ _ _) rfl ⟨rfl, bSet (bSet (bSet HB.out _ (by simp) _) _ (by simp) _) _ (by simp) _⟩
    · clear r0 r1 r2 f0 f1 f2 hr
      have d1 : decide (0 ≤ (k : Int)) = true := decide_eq_true (by omega)
      have e1 : ((k + 1 : Nat) : Int) - 1 = (k : Int) := by omega
      rw [e1]
      have HD : Hid (Calls Try.prog 47 #[.pointer none, .int .i64 (k : Int)] wr fun e w' => e = .returned (.tuple #[.agg #[.int .i64 0, .int .i64 0, .bool false], .bool false]) ∧ Below wr.heap.size wr w') := Lib.hid (hd_nil _ _)
      go_wp2_with (go_at_call 47; (with_reducible refine HD.out.mono ?_); rintro e w1 ⟨rfl, hb⟩; have HB1 := Lib.hid hb; clear hb)
      go_quiet (fail)
      all_goals go_wp2_with fail
      all_goals go_roundw
      case rel => exact PkRel.of (by omega) (fun d _ _ => by rintro ⟨x, L, h3, _⟩; cases h3) HL.out HR.out HB.out (bDr (bAl HB1.out _) _)
      case measure => simp [intOf]

end Go.Proofs.Ytllmfkodgalklaa
