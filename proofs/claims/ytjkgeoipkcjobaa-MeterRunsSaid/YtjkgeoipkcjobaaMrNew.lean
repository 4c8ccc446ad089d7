/- MeterRuns: the reference's New and Right. Written by gen_mr.py. -/
import Derived.Test.YtjkgeoipkcjobaaMrSml
import Derived.Test.YtjkgeoipkcjobaaMtNew
namespace Go.Proofs.Ytjkgeoipkcjobaa
open Go.RowKit Go.Joins Go.Deep

theorem storeRowOp {a : Act} {o : Oper} {W : World} (x y : Operand) {ty : TypeId} (ho : o.op = .store ty x y) (g : Nat) (cs old : Array Value) (hg : W.heap[g]? = some (.cells old ty (0, 0))) (hx : a.eval x = .pointer (some ⟨g, 0, none⟩)) (hy : a.eval y = .agg cs) (hi : (Try.prog.info? ty).map (·.size) = some cs.size) (hs : old.size = cs.size) (h1 : cs.all (·.oneCell') = true) :
    (execOp a.eval o).run Try.prog W = .ok .skip (W.setRow g cs) := by
  have k := run_storeVar_row (P := Try.prog) W g ty ty old cs hg hi hs h1
  unfold execOp
  simp only [ho, hx, hy, Instr.storeAt, Instr.sureAddr, Sem.run_bind, Sem.run_pure, Result.andThen_ok, k]
theorem rnew_any (r bu mo be now : Int) (cp aw sh : Bool) (w : World) (h : okC r bu mo be) : Calls Try.prog 15 #[.agg #[.int .i64 r, .int .i64 bu, .int .i64 mo, .int .i64 be, .bool cp, .bool aw, .bool sh], .int .i64 now] w fun e w' => ∃ pa na ca pb nb cb, e = .returned (.agg #[.int .i64 r, .int .i64 bu, .int .i64 mo, .int .i64 be, .bool cp, .bool aw, .bool sh, .int .i64 now, .slice (some pa) na ca, .slice (some pb) nb cb, .bool false]) ∧ NumZ w.heap.size w' (.slice (some pa) na ca) (bu * 1000000000) ∧ NumZ w.heap.size w' (.slice (some pb) nb cb) (be * 1000000000) ∧ Below w.heap.size w w' := by
  have HB1 := Lib.hid (fun W => rbits_any bu h.2.1.1 (by have := h.2.1.2; omega) W)
  have HB2 := Lib.hid (fun W => rbits_any be h.2.2.2.1 (by have := h.2.2.2.2; omega) W)
  clear h
  go_enter Try.func15, Try.ntmps15
  go_upto_region 1 with fail
  have h0a : ((w.alloc (.cells #[.int .i64 r, .int .i64 bu, .int .i64 mo, .int .i64 be, .bool cp, .bool aw, .bool sh] 31)).alloc (.cells #[.int .i64 0, .int .i64 0, .int .i64 0, .int .i64 0, .bool false, .bool false, .bool false, .int .i64 0, .slice none 0 0, .slice none 0 0, .bool false] 39)).drew.heap[w.heap.size]? = some (.cells #[.int .i64 r, .int .i64 bu, .int .i64 mo, .int .i64 be, .bool cp, .bool aw, .bool sh] 31 (0, 0)) := ((bAl (bRef (w.alloc (.cells #[.int .i64 r, .int .i64 bu, .int .i64 mo, .int .i64 be, .bool cp, .bool aw, .bool sh] 31))) _).block _ (by simp)).trans (heap_alloc_new w _)
  have h0r : ((w.alloc (.cells #[.int .i64 r, .int .i64 bu, .int .i64 mo, .int .i64 be, .bool cp, .bool aw, .bool sh] 31)).alloc (.cells #[.int .i64 0, .int .i64 0, .int .i64 0, .int .i64 0, .bool false, .bool false, .bool false, .int .i64 0, .slice none 0 0, .slice none 0 0, .bool false] 39)).drew.heap[w.heap.size + 1]? = some (.cells #[.int .i64 0, .int .i64 0, .int .i64 0, .int .i64 0, .bool false, .bool false, .bool false, .int .i64 0, .slice none 0 0, .slice none 0 0, .bool false] 39 (0, 0)) := by
    have := heap_alloc_new (w.alloc (.cells #[.int .i64 r, .int .i64 bu, .int .i64 mo, .int .i64 be, .bool cp, .bool aw, .bool sh] 31)) (.cells #[.int .i64 0, .int .i64 0, .int .i64 0, .int .i64 0, .bool false, .bool false, .bool false, .int .i64 0, .slice none 0 0, .slice none 0 0, .bool false] 39)
    rwa [show (w.alloc (.cells #[.int .i64 r, .int .i64 bu, .int .i64 mo, .int .i64 be, .bool cp, .bool aw, .bool sh] 31)).heap.size = w.heap.size + 1 by simp] at this
  have HBE : Hid (Below w.heap.size w ((w.alloc (.cells #[.int .i64 r, .int .i64 bu, .int .i64 mo, .int .i64 be, .bool cp, .bool aw, .bool sh] 31)).alloc (.cells #[.int .i64 0, .int .i64 0, .int .i64 0, .int .i64 0, .bool false, .bool false, .bool false, .int .i64 0, .slice none 0 0, .slice none 0 0, .bool false] 39)).drew) := Lib.hid (bDr (bAl (bAl (bRef w) _) _) 1)
  refine wp_region_held_drew (S := fun V => V.heap[w.heap.size]? = some (.cells #[.int .i64 r, .int .i64 bu, .int .i64 mo, .int .i64 be, .bool cp, .bool aw, .bool sh] 31 (0, 0))) (by kernel_rfl) h0a (fun h0 => ?_)
  refine hTakeS (i := 0) (k := 5) (v := .agg #[.int .i64 r, .int .i64 bu, .int .i64 mo, .int .i64 be, .bool cp, .bool aw, .bool sh]) rfl rfl (by kernel_rfl) (by kernel_rfl) (by kernel_rfl) (fun _ _ _ h => h) (.inl ⟨by rfl, fun W hW => loadOp _ _ rfl _ _ #[.int .i64 r, .int .i64 bu, .int .i64 mo, .int .i64 be, .bool cp, .bool aw, .bool sh] _ (range_whole hW) Try.underlying31 rfl (by kernel_rfl) rfl⟩) h0 ?_
  simp only [List.setIfInBounds_toArray, List.set_cons_zero, List.set_cons_succ]
  refine hTakeS (i := 1) (k := 6) (v := .int .i64 now) rfl rfl (by kernel_rfl) (by kernel_rfl) (by kernel_rfl) (fun _ _ _ h => h) (yieldsIf_val (by rfl) (by intro W; go_simp)) h0 ?_
  simp only [List.setIfInBounds_toArray, List.set_cons_zero, List.set_cons_succ]
  refine hTakeS (i := 2) (k := 7) (v := .pointer (some ⟨w.heap.size, 1, none⟩)) rfl rfl (by kernel_rfl) (by kernel_rfl) (by kernel_rfl) (fun _ _ _ h => h) (yieldsIf_val (by rfl) (by intro W; go_simp)) h0 ?_
  simp only [List.setIfInBounds_toArray, List.set_cons_zero, List.set_cons_succ]
  refine hTakeS (i := 3) (k := 8) (v := .int .i64 bu) rfl rfl (by kernel_rfl) (by kernel_rfl) (by kernel_rfl) (fun _ _ _ h => h) (.inl ⟨by rfl, fun W hW => by have c9 : W.cell? ⟨w.heap.size, 1, none⟩ = some (.int .i64 bu) := cell_of_row _ _ _ _ _ _ hW; go_simp⟩) h0 ?_
  simp only [List.setIfInBounds_toArray, List.set_cons_zero, List.set_cons_succ]
  refine hTakeS (i := 5) (k := 10) (v := .pointer (some ⟨w.heap.size, 3, none⟩)) rfl rfl (by kernel_rfl) (by kernel_rfl) (by kernel_rfl) (fun _ _ _ h => h) (yieldsIf_val (by rfl) (by intro W; go_simp)) h0 ?_
  simp only [List.setIfInBounds_toArray, List.set_cons_zero, List.set_cons_succ]
  refine hTakeS (i := 6) (k := 11) (v := .int .i64 be) rfl rfl (by kernel_rfl) (by kernel_rfl) (by kernel_rfl) (fun _ _ _ h => h) (.inl ⟨by rfl, fun W hW => by have c9 : W.cell? ⟨w.heap.size, 3, none⟩ = some (.int .i64 be) := cell_of_row _ _ _ _ _ _ hW; go_simp⟩) h0 ?_
  simp only [List.setIfInBounds_toArray, List.set_cons_zero, List.set_cons_succ]
  refine hCallR (i := 4) (k := 9) (by kernel_rfl) rfl rfl (by rfl) 21 #[.int .i64 bu] (by go_simp) (HB1.out _) ?_
  rintro e W1 ⟨v1, rfl, hn1, hb1⟩
  obtain ⟨pa, na, ca, rfl⟩ := hn1.slice
  have h1 := (hb1.block _ (lt_of_heap h0)).trans h0
  have HN1 := Lib.hid hn1
  refine ⟨_, rfl, h1, ?_⟩
  simp only [List.setIfInBounds_toArray, List.set_cons_zero, List.set_cons_succ]
  refine hCallR (i := 7) (k := 12) (by kernel_rfl) rfl rfl (by rfl) 21 #[.int .i64 be] (by go_simp) (HB2.out _) ?_
  rintro e W2 ⟨v2, rfl, hn2, hb2⟩
  obtain ⟨pb, nb, cb, rfl⟩ := hn2.slice
  have h2 := (hb2.block _ (lt_of_heap h1)).trans h1
  have HN2 := Lib.hid hn2
  have HN12 := Lib.hid (HN1.out.below hb2)
  have hr2 : W2.heap[w.heap.size + 1]? = some (.cells #[.int .i64 0, .int .i64 0, .int .i64 0, .int .i64 0, .bool false, .bool false, .bool false, .int .i64 0, .slice none 0 0, .slice none 0 0, .bool false] 39 (0, 0)) := (hb2.block _ (by have := hb1.size; have := lt_of_heap h0r; omega)).trans ((hb1.block _ (lt_of_heap h0r)).trans h0r)
  have HB12 := Lib.hid (bTr HBE.out (bTr hb1 hb2))
  refine ⟨_, rfl, h2, ?_⟩
  simp only [List.setIfInBounds_toArray, List.set_cons_zero, List.set_cons_succ]
  refine hTakeS (i := 8) (k := 13) (v := .agg #[.int .i64 r, .int .i64 bu, .int .i64 mo, .int .i64 be, .bool cp, .bool aw, .bool sh, .int .i64 now, .slice (some pa) na ca, .slice (some pb) nb cb, .bool false]) rfl rfl (by kernel_rfl) (by kernel_rfl) (by kernel_rfl) (fun _ _ _ h => h) (yieldsIf_val (by rfl) (fun W => buildOp _ _ rfl #[.int .i64 r, .int .i64 bu, .int .i64 mo, .int .i64 be, .bool cp, .bool aw, .bool sh, .int .i64 now, .slice (some pa) na ca, .slice (some pb) nb cb, .bool false] (by simp only [List.map_toArray, List.map_cons, List.map_nil]; kernel_rfl) W)) h2 ?_
  simp only [List.setIfInBounds_toArray, List.set_cons_zero, List.set_cons_succ]
  have h3 : (W2.setRow (w.heap.size + 1) #[.int .i64 r, .int .i64 bu, .int .i64 mo, .int .i64 be, .bool cp, .bool aw, .bool sh, .int .i64 now, .slice (some pa) na ca, .slice (some pb) nb cb, .bool false]).heap[w.heap.size]? = some (.cells #[.int .i64 r, .int .i64 bu, .int .i64 mo, .int .i64 be, .bool cp, .bool aw, .bool sh] 31 (0, 0)) := (setRow_other _ _ _ _ (by omega)).trans h2
  refine hOneNS (i := 9) (w' := W2.setRow (w.heap.size + 1) #[.int .i64 r, .int .i64 bu, .int .i64 mo, .int .i64 be, .bool cp, .bool aw, .bool sh, .int .i64 now, .slice (some pa) na ca, .slice (some pb) nb cb, .bool false]) (by kernel_rfl) rfl rfl (by rfl) (storeRowOp _ _ rfl (w.heap.size + 1) #[.int .i64 r, .int .i64 bu, .int .i64 mo, .int .i64 be, .bool cp, .bool aw, .bool sh, .int .i64 now, .slice (some pa) na ca, .slice (some pb) nb cb, .bool false] #[.int .i64 0, .int .i64 0, .int .i64 0, .int .i64 0, .bool false, .bool false, .bool false, .int .i64 0, .slice none 0 0, .slice none 0 0, .bool false] hr2 rfl rfl (by kernel_rfl) rfl (by simp [Value.oneCell'])) h3 ?_
  refine wpAnyH_done (by kernel_rfl) ?_ _
  go_wp2_with fail
  refine bodyW rfl (w.heap.size + 1) #[.int .i64 r, .int .i64 bu, .int .i64 mo, .int .i64 be, .bool cp, .bool aw, .bool sh, .int .i64 now, .slice (some pa) na ca, .slice (some pb) nb cb, .bool false] _ rfl (setRow_heap _ _ _ _ _ _ hr2) Try.underlying39 rfl (by kernel_rfl) rfl ?_
  refine ⟨pa, na, ca, pb, nb, cb, rfl, ?_, ?_, bRow HB12.out _ (by omega) _⟩
  · exact (HN12.out.row (lt_of_heap h0r)).down (Nat.le_of_lt (Nat.lt_of_succ_lt (lt_of_heap h0r)))
  · exact (HN2.out.row (Nat.lt_of_lt_of_le (lt_of_heap h0r) hb1.size)).down (Nat.le_trans (Nat.le_of_lt (Nat.lt_of_succ_lt (lt_of_heap h0r))) hb1.size)
set_option maxHeartbeats 1000000 in
theorem rright_any (r bu mo be : Int) (cp aw sh : Bool) (w : World) : Calls Try.prog 10 #[.agg #[.int .i64 r, .int .i64 bu, .int .i64 mo, .int .i64 be, .bool cp, .bool aw, .bool sh]] w fun e w' => e = .returned (.bool (decide (okC r bu mo be))) ∧ Below w.heap.size w w' := by
  obtain ⟨res, hres⟩ : ∃ res : Bool, decide (okC r bu mo be) = res := ⟨_, rfl⟩
  rw [hres]
  have HR := Lib.hid hres
  clear hres
  go_enter Try.func10, Try.ntmps10
  go_wp2_with fail
  go_loopw [15] (fun kv wr => ∃ k : Nat, kv = .int .i64 (k : Int) ∧ k ≤ 4 ∧ pref r bu mo be k ∧ Below w.heap.size w wr ∧ wr.heap[w.heap.size + 1]? = some (.cells #[.int .i64 r, .int .i64 bu, .int .i64 mo, .int .i64 be] 3 (0, 0))) (fun kv _ => 4 - (intOf kv).toNat)
  case atStart => exact ⟨0, rfl, by omega, ⟨fun h => by omega, fun h => by omega, fun h => by omega, fun h => by omega⟩, bAl (bAl (bRef w) _) _, by
    have := heap_alloc_new (w.alloc (.cells #[.int .i64 r, .int .i64 bu, .int .i64 mo, .int .i64 be, .bool cp, .bool aw, .bool sh] 31)) (.cells #[.int .i64 r, .int .i64 bu, .int .i64 mo, .int .i64 be] 3)
    rwa [show (w.alloc (.cells #[.int .i64 r, .int .i64 bu, .int .i64 mo, .int .i64 be, .bool cp, .bool aw, .bool sh] 31)).heap.size = w.heap.size + 1 by simp] at this⟩
  case round =>
    obtain ⟨k, rfl, hk, hp, hb, hrw⟩ := hrel
    have HB := Lib.hid hb
    have HP := Lib.hid hp
    have HRW := Lib.hid hrw
    clear hp hb hrw
    have hk5 : k = 0 ∨ k = 1 ∨ k = 2 ∨ k = 3 ∨ k = 4 := by omega
    clear hk
    rcases hk5 with rfl | rfl | rfl | rfl | rfl
    · have c9 : wr.cell? ⟨w.heap.size + 1, 0, none⟩ = some (.int .i64 r) := cell_of_row _ _ _ _ _ _ HRW.out
      by_cases h1 : r < 0
      · have d1 : decide (r < 0) = true := decide_eq_true h1
        have e := HR.out
        rw [decide_eq_false (fun h : okC r bu mo be => by have := (h.1).1; omega)] at e
        subst e
        go_wp2_with fail
        go_ret
        exact ⟨rfl, HB.out⟩
      have d1 : decide (r < 0) = false := decide_eq_false h1
      by_cases h2 : 8589934592 < r
      · have d2 : decide (8589934592 < r) = true := decide_eq_true h2
        have e := HR.out
        rw [decide_eq_false (fun h : okC r bu mo be => by have := (h.1).2; omega)] at e
        subst e
        go_wp2_with fail
        go_ret
        exact ⟨rfl, HB.out⟩
      have d2 : decide (8589934592 < r) = false := decide_eq_false h2
      have HO : Hid (ok1 r) := Lib.hid ⟨by omega, by omega⟩
      clear h1 h2
      go_wp2_with fail
      go_roundw
      case rel => exact ⟨1, rfl, by omega, ⟨fun _ => HO.out, fun h => by omega, fun h => by omega, fun h => by omega⟩, HB.out, HRW.out⟩
      case measure => simp [intOf]
    · have c9 : wr.cell? ⟨w.heap.size + 1, 1, none⟩ = some (.int .i64 bu) := cell_of_row _ _ _ _ _ _ HRW.out
      by_cases h1 : bu < 0
      · have d1 : decide (bu < 0) = true := decide_eq_true h1
        have e := HR.out
        rw [decide_eq_false (fun h : okC r bu mo be => by have := (h.2.1).1; omega)] at e
        subst e
        go_wp2_with fail
        go_ret
        exact ⟨rfl, HB.out⟩
      have d1 : decide (bu < 0) = false := decide_eq_false h1
      by_cases h2 : 8589934592 < bu
      · have d2 : decide (8589934592 < bu) = true := decide_eq_true h2
        have e := HR.out
        rw [decide_eq_false (fun h : okC r bu mo be => by have := (h.2.1).2; omega)] at e
        subst e
        go_wp2_with fail
        go_ret
        exact ⟨rfl, HB.out⟩
      have d2 : decide (8589934592 < bu) = false := decide_eq_false h2
      have HO : Hid (ok1 bu) := Lib.hid ⟨by omega, by omega⟩
      clear h1 h2
      go_wp2_with fail
      go_roundw
      case rel => exact ⟨2, rfl, by omega, ⟨fun _ => HP.out.1 (by omega), fun _ => HO.out, fun h => by omega, fun h => by omega⟩, HB.out, HRW.out⟩
      case measure => simp [intOf]
    · have c9 : wr.cell? ⟨w.heap.size + 1, 2, none⟩ = some (.int .i64 mo) := cell_of_row _ _ _ _ _ _ HRW.out
      by_cases h1 : mo < 0
      · have d1 : decide (mo < 0) = true := decide_eq_true h1
        have e := HR.out
        rw [decide_eq_false (fun h : okC r bu mo be => by have := (h.2.2.1).1; omega)] at e
        subst e
        go_wp2_with fail
        go_ret
        exact ⟨rfl, HB.out⟩
      have d1 : decide (mo < 0) = false := decide_eq_false h1
      by_cases h2 : 8589934592 < mo
      · have d2 : decide (8589934592 < mo) = true := decide_eq_true h2
        have e := HR.out
        rw [decide_eq_false (fun h : okC r bu mo be => by have := (h.2.2.1).2; omega)] at e
        subst e
        go_wp2_with fail
        go_ret
        exact ⟨rfl, HB.out⟩
      have d2 : decide (8589934592 < mo) = false := decide_eq_false h2
      have HO : Hid (ok1 mo) := Lib.hid ⟨by omega, by omega⟩
      clear h1 h2
      go_wp2_with fail
      go_roundw
      case rel => exact ⟨3, rfl, by omega, ⟨fun _ => HP.out.1 (by omega), fun _ => HP.out.2.1 (by omega), fun _ => HO.out, fun h => by omega⟩, HB.out, HRW.out⟩
      case measure => simp [intOf]
    · have c9 : wr.cell? ⟨w.heap.size + 1, 3, none⟩ = some (.int .i64 be) := cell_of_row _ _ _ _ _ _ HRW.out
      by_cases h1 : be < 0
      · have d1 : decide (be < 0) = true := decide_eq_true h1
        have e := HR.out
        rw [decide_eq_false (fun h : okC r bu mo be => by have := (h.2.2.2).1; omega)] at e
        subst e
        go_wp2_with fail
        go_ret
        exact ⟨rfl, HB.out⟩
      have d1 : decide (be < 0) = false := decide_eq_false h1
      by_cases h2 : 8589934592 < be
      · have d2 : decide (8589934592 < be) = true := decide_eq_true h2
        have e := HR.out
        rw [decide_eq_false (fun h : okC r bu mo be => by have := (h.2.2.2).2; omega)] at e
        subst e
        go_wp2_with fail
        go_ret
        exact ⟨rfl, HB.out⟩
      have d2 : decide (8589934592 < be) = false := decide_eq_false h2
      have HO : Hid (ok1 be) := Lib.hid ⟨by omega, by omega⟩
      clear h1 h2
      go_wp2_with fail
      go_roundw
      case rel => exact ⟨4, rfl, by omega, ⟨fun _ => HP.out.1 (by omega), fun _ => HP.out.2.1 (by omega), fun _ => HP.out.2.2.1 (by omega), fun _ => HO.out⟩, HB.out, HRW.out⟩
      case measure => simp [intOf]
    · have e := HR.out
      rw [decide_eq_true (show okC r bu mo be from ⟨HP.out.1 (by omega), HP.out.2.1 (by omega), HP.out.2.2.1 (by omega), HP.out.2.2.2 (by omega)⟩)] at e
      subst e
      go_wp2_with fail
      go_ret
      exact ⟨rfl, HB.out⟩

end Go.Proofs.Ytjkgeoipkcjobaa
