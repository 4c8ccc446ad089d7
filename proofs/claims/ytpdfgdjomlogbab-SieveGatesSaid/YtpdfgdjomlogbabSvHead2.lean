/- The laws' head: the walk. -/
import Derived.Test.YtpdfgdjomlogbabSvHead
namespace Go.Proofs.Ytpdfgdjomlogbab
open Go.RowKit Go.Joins

def HRel (w : World) (b g cap N : Nat) (ov kv : Value) (W : World) : Prop := ∃ k : Nat, k ≤ 3 ∧ kv = .int .i64 (k : Int) ∧ HS w b g cap N k ov W
theorem new_x0 (w : World) : Calls Try.prog 8 #[.slice (some ⟨w.heap.size, 0, none⟩) 1 1, .slice none 0 0, .slice none 0 0, .int .i64 0] (w.alloc (.cells (SA x0) 28)) fun e w' =>
    ∃ g cap, e = .returned (.tuple #[.pointer (some ⟨w.heap.size + 1, 0, none⟩), .int .i64 0]) ∧ NS (w.alloc (.cells (SA x0) 28)) (w.heap.size + 1) (.slice (some ⟨g, 0, none⟩) 1 cap) [fl0 x0] 0 w' ∧ g < w'.heap.size ∧ 1 ≤ cap := by
  have hA : SmArg (w.alloc (.cells (SA x0) 28)) (.slice (some ⟨w.heap.size, 0, none⟩) 1 1) [x0] := by
    refine .inr ⟨by simp, w.heap.size, 0, 1, rfl, by simp, by simp, fun k hk j u hu => ?_⟩
    have : k = 0 := by simpa using hk
    subst this
    exact row_cells (heap_alloc_one w _) j u hu
  refine (newS_any 0 hA (by simp)).mono fun e w' hh => ?_
  obtain ⟨h1, _, _⟩ := hh
  obtain ⟨he, v, hns⟩ := h1 Lk_right
  have hsz : (w.alloc (.cells (SA x0) 28)).heap.size = w.heap.size + 1 := by simp
  rw [hsz] at he hns
  obtain ⟨g, cap, rfl, hc⟩ := hns.pos (by simp)
  exact ⟨g, cap, he, hns, (row_lt hns.row (k := g) rfl).2, hc⟩
set_option maxHeartbeats 4000000 in
theorem head_ret (w : World) : Calls Try.prog 7 #[] w fun e w' => e = .returned (.bool true) ∧ Below w.heap.size w w' := by
  have HNW : Hid (Calls Try.prog 8 #[.slice (some ⟨w.heap.size, 0, none⟩) 1 1, .slice none 0 0, .slice none 0 0, .int .i64 0] (w.alloc (.cells #[.int .i64 (-1), .int .i64 1, .int .u8 0, .int .u8 0, .int .u8 0, .int .u8 0, .int .u8 0, .int .u8 0, .bool false, .int .i64 (-1), .int .i64 (-1), .int .i64 100, .bool true, .int .i64 (-1)] 28)) fun e w' =>
    ∃ g cap, e = .returned (.tuple #[.pointer (some ⟨w.heap.size + 1, 0, none⟩), .int .i64 0]) ∧ NS (w.alloc (.cells (SA x0) 28)) (w.heap.size + 1) (.slice (some ⟨g, 0, none⟩) 1 cap) [fl0 x0] 0 w' ∧ g < w'.heap.size ∧ 1 ≤ cap) := Lib.hid (new_x0 w)
  have HB0 := Lib.hid (bAl (bRef w) (.cells (SA x0) 28))
  obtain ⟨i0, hi, hz0, hz1, hz2⟩ := info_parts Try.infoI
  have HIi := Lib.hid hi
  have HZ0 := Lib.hid hz0
  have HZ1 := Lib.hid hz1
  have HZ2 := Lib.hid hz2
  clear hi hz0 hz1 hz2
  go_enter Try.func7, Try.ntmps7
  go_wp2_with (go_at_call 8; (with_reducible refine (HNW.out).mono ?_); rintro e w1 ⟨g, cap, rfl, hns, hg, hc⟩; have HN1 := Lib.hid hns; have HG := Lib.hid hg; have HC := Lib.hid hc; clear hns hg hc)
  have HB1 : Hid (Below w.heap.size w w1) := Lib.hid (HB0.out.trans (HN1.out.bel.mono HB0.out.size))
  have HH : Hid (HS (w.alloc (.cells (SA x0) 28)) (w.heap.size + 1) g cap w1.heap.size 0 (.slice (some ⟨w1.heap.size, 0, none⟩) 0 0) ((w1.alloc (.cells #[] 3)).alloc (.cells #[.int .i64 100, .int .i64 101, .int .i64 100] 3))) := Lib.hid (by
    refine ⟨(HN1.out.below (bAl (bRef w1) _)).below (bAl (bRef _) _), ?_, ?_, ?_, lt_of_heap HN1.out.box, HG.out, by have := HN1.out.bel.size; simpa using this⟩
    · exact (World.ownsRow_made (base := w1.heap.size) (e := 3) (size := 1) w1 #[] 0 (Nat.le_refl _) (by unfold maxLen; omega) rfl).alloc _
    · have h := heap_alloc_one (w1.alloc (.cells #[] 3)) (.cells #[.int .i64 100, .int .i64 101, .int .i64 100] 3)
      rw [show (w1.alloc (.cells #[] 3)).heap.size = w1.heap.size + 1 by simp] at h
      exact h
    · simp [Value.ownBlock])
  go_loopw [3, 25] (fun ov kv wr => HRel (w.alloc (.cells (SA x0) 28)) (w.heap.size + 1) g cap w1.heap.size ov kv wr) (fun _ kv _ => 3 - (intOf kv).toNat)
  case atStart => exact ⟨0, by omega, rfl, HH.out⟩
  case round =>
    clear HH
    obtain ⟨k, hk, rfl, hS⟩ := hrel
    have HS1 := Lib.hid hS
    obtain ⟨po, co, rfl⟩ := row_form hS.row
    have l0 := cell_of_row _ _ 0 _ _ _ hS.lit
    have l1 := cell_of_row _ _ 1 _ _ _ hS.lit
    have l2 := cell_of_row _ _ 2 _ _ _ hS.lit
    rcases Nat.lt_or_ge k 3 with gk | gk
    · have hd : decide ((k : Int) < 3) = true := decide_eq_true (by omega)
      have hcell : wr.cell? ⟨w1.heap.size + 1, k, none⟩ = some (.int .i64 (szs k)) := by
        have : k = 0 ∨ k = 1 ∨ k = 2 := by omega
        rcases this with rfl | rfl | rfl
        · exact l0
        · exact l1
        · exact l2
      have HIN := Lib.hid (fun W' (hh : NS (w.alloc (.cells (SA x0) 28)) (w.heap.size + 1) (.slice (some ⟨g, 0, none⟩) 1 cap) (Lk k) 0 W') => in_some hh (Lk_len k).symm HC.out (by omega) (k := 0) (by omega) _ rfl (by rw [Lk_st k (by omega)]; rfl) (by rw [Lk_st k (by omega)]; rfl) 0 0 1 M6.zero M6.zero 3 (szs k) (Lk_find k gk))
      rw [Lk_v k gk] at HIN
      dsimp only [MV, M6.zero] at HIN
      rw [show ((0 : Nat) : Int) = 0 from rfl] at HIN
      have HLV := Lib.hid (Lk_v k gk)
      generalize hsz : szs k = sz at *
      generalize hwh : wh k = wk at *
      clear hS l0 l1 l2
      have HWK := Lib.hid hwh
      have HSZ := Lib.hid hsz
      rw [← hsz, ← hwh] at HIN
      clear hsz hwh
      have HIN2 : Hid (∀ W', NS (w.alloc (.cells (SA x0) 28)) (w.heap.size + 1) (.slice (some ⟨g, 0, none⟩) 1 cap) (Lk k) 0 W' → Calls Try.prog 10 #[.pointer (some ⟨w.heap.size + 1, 0, none⟩), .int .i64 0, .int .i64 0, .int .i64 1, .agg #[.int .u8 0, .int .u8 0, .int .u8 0, .int .u8 0, .int .u8 0, .int .u8 0], .agg #[.int .u8 0, .int .u8 0, .int .u8 0, .int .u8 0, .int .u8 0, .int .u8 0], .int .i64 3, .int .i64 sz] W' fun e w' => (∃ y, e = .returned (.tuple #[.int .i64 0, .int .i64 y, .bool false, .int .i64 wk])) ∧ NS (w.alloc (.cells (SA x0) 28)) (w.heap.size + 1) (.slice (some ⟨g, 0, none⟩) 1 cap) (Lk (k + 1)) 0 w' ∧ TwoB (w.heap.size + 1) g W' w') := Lib.hid (fun W' hh => by
        have h := HIN.out W' hh
        rw [HSZ.out, HWK.out] at h
        refine h.mono fun e w' hh => ⟨⟨_, hh.1⟩, ?_, hh.2.2⟩
        have h2 := hh.2.1
        rw [show Lk (k + 1) = ((Lk k).set 0 (passF ((Lk k).getD 0 default) (szs k))).set 0 (bump (passF ((Lk k).getD 0 default) (szs k)) (passV ((Lk k).getD 0 default) (szs k))) from rfl, HSZ.out, HLV.out]
        exact h2)
      have HROW := Lib.hid (fun W' (hn : NS (w.alloc (.cells (SA x0) 28)) (w.heap.size + 1) (.slice (some ⟨g, 0, none⟩) 1 cap) (Lk (k + 1)) 0 W') (ht : TwoB (w.heap.size + 1) g wr W') => HS1.out.in_ hn ht)
      clear HIN
      go_wp2_with (first
        | (go_at_call 10; (with_reducible refine (HIN2.out _ HS1.out.ns).mono ?_); rintro e w2 ⟨⟨y, rfl⟩, hn, ht⟩; have HN2 := Lib.hid (HROW.out _ hn ht); have HNA := Lib.hid (And.intro (HN2.out.1.below (bAl (bRef w2) (.cells #[.int .i64 wk] 3))) (And.intro (HN2.out.2.1.alloc (.cells #[.int .i64 wk] 3)) (((bAl (bRef w2) (.cells #[.int .i64 wk] 3)).block _ (lt_of_heap HN2.out.2.2)).trans HN2.out.2.2))); clear hn ht)
        | (at_builtin; refine wpList_append_own_at _ rfl _ _ 47 rfl w1.heap.size 3 i0 _ 1 8 Try.underlying47 HIi.out HZ0.out HZ1.out HZ2.out rfl (by decide) (.slice po k co) k (iv k) rfl HNA.out.2.1 ⟨w2.heap.size, 0, none⟩ 1 1 [.int .i64 wk] rfl rfl (cell_one_new _ _ _) (by intro u hu; simp at hu; subst hu; rfl) (by unfold maxLen; omega) (by omega) (by have := lt_of_heap HNA.out.2.2; omega) ?_; intro v3 w3 h1 h2 _ h4; rw [← HWK.out] at h1; have HS3 := Lib.hid (HS.app HNA.out.1 HNA.out.2.1 HNA.out.2.2 HS1.out.ne HS1.out.bN HS1.out.gN HS1.out.wN h1 h2 h4); obtain ⟨p3, c3, rfl⟩ := row_form h1; clear h1 h2 h4))
      go_roundw
      case rel => exact ⟨k + 1, by omega, by go_num, HS3.out⟩
      case measure => simp [intOf]; omega
    · obtain rfl : k = 3 := by omega
      have hd : decide (((3 : Nat) : Int) < 3) = false := decide_eq_false (by omega)
      obtain ⟨g3, cap3, cur, e, hb3, hg3, hn3, _, _, _⟩ : ∃ g cap cur, (Value.slice po 3 co) = .slice (some ⟨g, 0, none⟩) 3 cap ∧ w1.heap.size ≤ g ∧ wr.heap[g]? = some (.cells cur 3 (0, 0)) ∧ 3 ≤ cap ∧ cap ≤ maxLen ∧ cur.size = cap * 1 ∧ cur.toList.take (3 * 1) = iv 3 := by
        rcases hS.row.2 with ⟨_, h⟩ | h
        · omega
        · exact h
      injection e with e1 _ e3
      subst e1 e3
      have r0 : wr.cell? ⟨g3, 0, none⟩ = some (.int .i64 0) := hS.row.cellAt 0 (by omega)
      have r1 : wr.cell? ⟨g3, 1, none⟩ = some (.int .i64 2) := hS.row.cellAt 1 (by omega)
      have r2 : wr.cell? ⟨g3, 2, none⟩ = some (.int .i64 5) := hS.row.cellAt 2 (by omega)
      have HOP := Lib.hid (open_some hS.ns (Lk_len 3).symm HC.out (k := 0) (by omega) _ rfl (by rw [Lk_st 3 (by omega)]; rfl))
      rw [show ((0 : Nat) : Int) = 0 from rfl] at HOP
      have HB2 : Hid (Below w.heap.size w wr) := Lib.hid (HB0.out.trans (hS.ns.bel.mono HB0.out.size))
      clear hS l0 l1 l2 hg3
      go_wp2_with (go_at_call 9; (with_reducible refine (HOP.out).mono ?_); rintro e w2 ⟨rfl, hn, ht⟩; have HB3 := Lib.hid (HB0.out.trans (hn.bel.mono HB0.out.size)); clear hn ht)
      go_ret
      exact ⟨rfl, HB3.out⟩

end Go.Proofs.Ytpdfgdjomlogbab
