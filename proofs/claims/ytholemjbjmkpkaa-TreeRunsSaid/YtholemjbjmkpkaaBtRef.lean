/- The reference of layer 19: rows, Cmp. -/
import Derived.Test.YtholemjbjmkpkaaBtApp
namespace Go.Proofs.Ytholemjbjmkpkaa
open Go.RowKit Go.Joins Go.Deep

theorem row_ret (v : Vc) : Ret 16 #[.agg (VC v)] (.agg (VC v)) := fun w => by
  unfold VC
  go_enter Try.func16, Try.ntmps16
  go_wp2_with fail
  refine bodyW rfl (w.heap.size + 1) (VC v) _ rfl (heap_alloc2_new w _ _) Try.underlying30 rfl (by kernel_rfl) rfl ?_
  exact ⟨rfl, bAl (bAl (bRef w) _) _⟩
theorem lx_step {a b : List Int} {k : Nat} (ha : k < a.length) (hb : k < b.length) : lx (a.drop k) (b.drop k) = if a.getD k 0 < b.getD k 0 then -1 else if b.getD k 0 < a.getD k 0 then 1 else lx (a.drop (k + 1)) (b.drop (k + 1)) := by
  rw [List.drop_eq_getElem_cons ha, List.drop_eq_getElem_cons hb, lx_cons, List.getD_eq_getElem?_getD, List.getElem?_eq_getElem ha, List.getD_eq_getElem?_getD, List.getElem?_eq_getElem hb]
  rfl
def RcRel (a b : List Int) (n : Nat) (W : World) (iv : Value) (wr : World) : Prop := ∃ k : Nat, k ≤ n ∧ iv = .int .i64 (k : Int) ∧ lx (a.drop k) (b.drop k) = lx a b ∧ ∃ m, wr = W.drewN m
theorem vcell {v : Vc} {W : World} {b n k : Nat} {t : TypeId} (hg : W.heap[b]? = some (.cells (VC v) t (0, 0))) (hn : n ≤ 8) (hk : k < n) : W.cell? ⟨b, k, none⟩ = some (.int .i64 ((v.row.take n).getD k 0)) := by
  rw [cell_of_row _ _ k _ _ _ hg, List.getD_eq_getElem?_getD, List.getElem?_take, if_pos hk]
  rcases (show k = 0 ∨ k = 1 ∨ k = 2 ∨ k = 3 ∨ k = 4 ∨ k = 5 ∨ k = 6 ∨ k = 7 by omega) with rfl | rfl | rfl | rfl | rfl | rfl | rfl | rfl <;> rfl
set_option maxRecDepth 20000 in
set_option maxHeartbeats 2000000 in
theorem rcmp_any (a b : Vc) (n : Nat) (hn : n ≤ 8) (w : World) : Calls Try.prog 15 #[.agg (VC a), .agg (VC b), .int .i64 (n : Int)] w fun e w' => e = .returned (.int .i64 (lx (a.row.take n) (b.row.take n))) ∧ Below w.heap.size w w' := by
  have HT := Lib.hid (TwoB.start (t := 30) (x := VC a) (y := VC b) w)
  have hla : (a.row.take n).length = n := by rw [List.length_take]; simp [Vc.row]; omega
  have hlb : (b.row.take n).length = n := by rw [List.length_take]; simp [Vc.row]; omega
  have HLA := Lib.hid hla
  have HLB := Lib.hid hlb
  obtain ⟨z, hz⟩ : ∃ z, lx (a.row.take n) (b.row.take n) = z := ⟨_, rfl⟩
  rw [hz]
  have HZ := Lib.hid hz
  have HN := Lib.hid hn
  have HCx := Lib.hid (fun (W : World) (h : TwoB 30 (VC a) (VC b) w W) k (hk : k < n) => vcell h.bx hn hk)
  have HCy := Lib.hid (fun (W : World) (h : TwoB 30 (VC a) (VC b) w W) k (hk : k < n) => vcell h.by_ hn hk)
  have HS := Lib.hid (fun k (hk : k < n) => lx_step (a := a.row.take n) (b := b.row.take n) (k := k) (by omega) (by omega))
  clear hz hla hlb
  generalize a.row.take n = xs at *
  generalize b.row.take n = ys at *
  rw [show VC a = #[.int .i64 a.r.one, .int .i64 a.r.cls, .int .i64 a.r.two, .int .i64 a.r.id, .int .i64 a.steps, .int .i64 a.from_, .int .i64 a.port, .int .i64 a.at_] from rfl, show VC b = #[.int .i64 b.r.one, .int .i64 b.r.cls, .int .i64 b.r.two, .int .i64 b.r.id, .int .i64 b.steps, .int .i64 b.from_, .int .i64 b.port, .int .i64 b.at_] from rfl] at *
  go_enter Try.func15, Try.ntmps15
  go_wp2_with fail
  generalize (w.alloc (.cells #[.int .i64 a.r.one, .int .i64 a.r.cls, .int .i64 a.r.two, .int .i64 a.r.id, .int .i64 a.steps, .int .i64 a.from_, .int .i64 a.port, .int .i64 a.at_] 30)).alloc (.cells #[.int .i64 b.r.one, .int .i64 b.r.cls, .int .i64 b.r.two, .int .i64 b.r.id, .int .i64 b.steps, .int .i64 b.from_, .int .i64 b.port, .int .i64 b.at_] 30) = W at *
  go_loopw [7] (fun iv wr => RcRel xs ys n W iv wr) (fun iv _ => n - (intOf iv).toNat)
  case atStart => exact ⟨0, by omega, rfl, rfl, 0, rfl⟩
  case round =>
    obtain ⟨k, hk, rfl, hall, m, rfl⟩ := hrel
    have HAll := Lib.hid hall
    clear hall
    have hn := HN.out
    rcases Nat.lt_or_ge k n with g | g
    · have hd : decide ((k : Int) < (n : Int)) = true := decide_eq_true (by omega)
      have hk8 : k < 8 := by omega
      have hir : IntKind.i64.wrap (k : Int) = (k : Int) := by rw [IntKind.wrap_i64]; omega
      have cx := HCx.out W HT.out k g
      have cy := HCy.out W HT.out k g
      have HSk := Lib.hid (HS.out k g)
      generalize xs.getD k 0 = x at *
      generalize ys.getD k 0 = y at *
      by_cases h1 : x < y
      · have HE := Lib.hid (show (-1 : Int) = z by rw [← HZ.out, ← HAll.out, HSk.out, if_pos h1])
        have hd1 : decide (x < y) = true := decide_eq_true h1
        clear h1
        go_upto_region 4 with (fail)
        go_quiet (fail)
        go_wp2_with fail
        go_ret
        exact ⟨by rw [← HE.out]; rfl, bDr (bDr HT.out.bel _) _⟩
      · have hd1 : decide (x < y) = false := decide_eq_false h1
        by_cases h2 : y < x
        · have HE := Lib.hid (show (1 : Int) = z by rw [← HZ.out, ← HAll.out, HSk.out, if_neg h1, if_pos h2])
          have hd2 : decide (y < x) = true := decide_eq_true h2
          clear h1 h2
          go_upto_region 4 with (fail)
          go_quiet (fail)
          go_upto_region 6 with (fail)
          go_quiet (fail)
          go_wp2_with fail
          go_ret
          exact ⟨by rw [← HE.out]; rfl, bDr (bDr (bDr HT.out.bel _) _) _⟩
        · have HE := Lib.hid (show lx (xs.drop (k + 1)) (ys.drop (k + 1)) = lx xs ys by rw [← HAll.out, HSk.out, if_neg h1, if_neg h2])
          have hd2 : decide (y < x) = false := decide_eq_false h2
          clear h1 h2
          go_upto_region 4 with (fail)
          go_quiet (fail)
          go_upto_region 6 with (fail)
          go_quiet (fail)
          go_wp2_with fail
          go_roundw
          case rel => exact ⟨k + 1, by omega, by go_num, HE.out, _, rfl⟩
          case measure => simp [intOf]; omega
    · obtain rfl : k = n := by omega
      have hd : decide ((k : Int) < (k : Int)) = false := decide_eq_false (by omega)
      have HE := Lib.hid (show (0 : Int) = z by rw [← HZ.out, ← HAll.out, List.drop_eq_nil_of_le (by rw [HLA.out]; exact Nat.le_refl _), List.drop_eq_nil_of_le (by rw [HLB.out]; exact Nat.le_refl _)]; rfl)
      go_wp2_with fail
      go_ret
      exact ⟨by rw [← HE.out]; rfl, bDr HT.out.bel _⟩
theorem rcmp8 (a b : Vc) (w : World) : Calls Try.prog 15 #[.agg (VC a), .agg (VC b), .int .i64 8] w fun e w' => e = .returned (.int .i64 (a.cmp b)) ∧ Below w.heap.size w w' := rcmp_any a b 8 (by decide) w
theorem rcmp4 (a b : Vc) (w : World) : Calls Try.prog 15 #[.agg (VC a), .agg (VC b), .int .i64 4] w fun e w' => e = .returned (.int .i64 (a.r.cmp b.r)) ∧ Below w.heap.size w w' := rcmp_any a b 4 (by decide) w

end Go.Proofs.Ytholemjbjmkpkaa
