/- Package fdb: New. -/
import Derived.Test.YtkbodcgamfkegaaFdOps
namespace Go.Proofs.Ytkbodcgamfkegaa
open Go.RowKit Go.Joins Go.Maps Go.MapKept Go.ChangeMaps Go.WideMaps

theorem Try.infoPort : (Try.prog.info? 54).map (fun i => (i.zero, i.size, i.bytes)) = some (some (.agg #[.int .i64 0, .int .i64 0, .int .i64 0, .int .i64 0, .int .i64 0, .int .i64 0, .int .i64 0, .int .i64 0, .int .i64 0]), 9, 72) := by kernel_rfl
theorem prt_made {B : Nat} {w : World} {g n : Nat} (hn : 1 ≤ n) (h : w.ownsRow B 54 9 (.slice (some ⟨g, 0, none⟩) n n) n (madeCells (Value.agg #[.int .i64 0, .int .i64 0, .int .i64 0, .int .i64 0, .int .i64 0, .int .i64 0, .int .i64 0, .int .i64 0, .int .i64 0]).cells (n * 9)).toList) : Prt w g n (fun _ => 0) := by
  rcases h.2 with ⟨e, _⟩ | ⟨r, cap, cur, e, h1, hg, hnc, hm, hs, ht⟩
  · cases e
  · injection e with e1 e2 e3
    injection e1 with e1
    injection e1 with e1
    subst e1 e3
    refine ⟨cur, hg, hs, fun i hi => ?_⟩
    have e4 : cur[i]? = (madeCells (Value.agg #[.int .i64 0, .int .i64 0, .int .i64 0, .int .i64 0, .int .i64 0, .int .i64 0, .int .i64 0, .int .i64 0, .int .i64 0]).cells (n * 9))[i]? := by
      rw [← Array.getElem?_toList, ← Array.getElem?_toList, ← ht, List.getElem?_take, if_pos hi]
    rw [e4]
    have e5 : ∀ k, k < 9 → (Value.agg #[.int .i64 0, .int .i64 0, .int .i64 0, .int .i64 0, .int .i64 0, .int .i64 0, .int .i64 0, .int .i64 0, .int .i64 0]).cells[k]! = .int .i64 0 := fun k hk => by
      have : k = 0 ∨ k = 1 ∨ k = 2 ∨ k = 3 ∨ k = 4 ∨ k = 5 ∨ k = 6 ∨ k = 7 ∨ k = 8 := by omega
      rcases this with rfl | rfl | rfl | rfl | rfl | rfl | rfl | rfl | rfl <;> rfl
    unfold madeCells
    rw [Array.getElem?_map, Array.getElem?_range, if_pos hi]
    exact congrArg some (e5 _ (Nat.mod_lt _ (by decide)))
def upd (F : Nat → Int) (i : Nat) (x : Int) : Nat → Int := fun j => if j = i then x else F j
section
variable {B m : Nat} {w : World} {b : TB} {s : TS}
theorem Tab.pne (h : Tab B w b m s) : b.t ≠ b.p ∧ b.v ≠ b.p ∧ b.s ≠ b.p ∧ b.e ≠ b.p := by
  obtain ⟨cs, p1, p2, p3⟩ := h.prt
  obtain ⟨_, ⟨_, _, v1, _⟩, _⟩ := h.mv
  obtain ⟨_, ⟨_, _, s1, _⟩, _⟩ := h.ms
  obtain ⟨_, ⟨_, _, e1, _⟩, _⟩ := h.me
  refine ⟨fun e => ?_, fun e => ?_, fun e => ?_, fun e => ?_⟩
  · have hr := h.row
    rw [e, p1] at hr
    injection hr with hr
    injection hr with _ hr _
    exact absurd hr (by decide)
  · rw [e, p1] at v1; cases v1
  · rw [e, p1] at s1; cases s1
  · rw [e, p1] at e1; cases e1
theorem Tab.setP (h : Tab B w b m s) {i : Nat} (hi : i < s.n * 9) (x : Int) : Tab B (w.setCell ⟨b.p, i, none⟩ (.int .i64 x)) b m { s with F := upd s.F i x } := by
  obtain ⟨n1, n2, n3, n4⟩ := h.pne
  obtain ⟨cs, p1, p2, p3⟩ := h.prt
  refine ⟨(heap_setCell_other _ ⟨b.p, i, none⟩ b.t _ n1).trans h.row, ⟨cs.setIfInBounds i (Value.int .i64 x), heap_setCell_same w b.p i cs _ _ p1, by rw [Array.size_setIfInBounds]; exact p2, fun j hj => ?_⟩, h.mv.heap (heap_setCell_other _ ⟨b.p, i, none⟩ b.v _ n2), h.ms.heap (heap_setCell_other _ ⟨b.p, i, none⟩ b.s _ n3), h.me.heap (heap_setCell_other _ ⟨b.p, i, none⟩ b.e _ n4), h.n0, h.n8, h.bt, h.bp, h.bv, h.bs, h.be, h.vs, h.ve, h.se⟩
  show _ = some (Value.int .i64 (upd s.F i x j))
  unfold upd
  rw [Array.getElem?_setIfInBounds]
  by_cases e : i = j
  · subst e
    have hi2 : i < cs.size := by rw [p2]; exact hi
    simp [hi2]
  · rw [if_neg e, if_neg (fun e2 => e e2.symm)]
    exact p3 j hj
theorem Tab.port (h : Tab B w b m s) {i : Nat} (hi : i < s.n * 9) : w.cell? ⟨b.p, i, none⟩ = some (.int .i64 (s.F i)) ∧ w.frozen? ⟨b.p, i, none⟩ = false := by
  obtain ⟨cs, p1, p2, p3⟩ := h.prt
  exact ⟨(cell_of_row _ _ _ _ _ _ p1).trans (p3 i hi), frozen_of_row _ _ _ _ _ p1⟩
end
theorem tab_new {w w2 : World} {n : Nat} {room : Int} {F : Nat → Int} (hp : Prt w2 w.heap.size n F) (hg : w.grownBy w2 none) (h1 : 1 ≤ n) (h8 : n ≤ 8) :
    Tab w.heap.size ((((w2.alloc (.map #[] 0)).alloc (.map #[] 0)).alloc (.map #[] 0)).alloc (.cells #[.slice (some ⟨w.heap.size, 0, none⟩) n n, .int .i64 room, .map (some w2.heap.size), .map (some (w2.heap.size + 1)), .map (some (w2.heap.size + 2))] 81)) ⟨w2.heap.size + 3, w.heap.size, w2.heap.size, w2.heap.size + 1, w2.heap.size + 2⟩ 0 ⟨n, room, F, [], [], []⟩ ∧
    Below w.heap.size w ((((w2.alloc (.map #[] 0)).alloc (.map #[] 0)).alloc (.map #[] 0)).alloc (.cells #[.slice (some ⟨w.heap.size, 0, none⟩) n n, .int .i64 room, .map (some w2.heap.size), .map (some (w2.heap.size + 1)), .map (some (w2.heap.size + 2))] 81)) := by
  have B2 : Below w.heap.size w w2 := ⟨hg.os, hg.tape, hg.output, hg.size, fun k hk => hg.block k hk (by simp)⟩
  obtain ⟨cs, p1, p2, p3⟩ := hp
  have lp := lt_of_heap p1
  have b1 := bAl (bRef w2) (.map #[] 0)
  have z1 : (w2.alloc (.map #[] 0)).heap.size = w2.heap.size + 1 := by simp
  have m1 : MapL MV (w2.alloc (.map #[] 0)) w2.heap.size 0 ([] : List (Int × (Int × Int))) := mapL_made w2
  generalize w2.alloc (.map #[] 0) = w3 at *
  have b2 := bAl (bRef w3) (.map #[] 0)
  have z2 : (w3.alloc (.map #[] 0)).heap.size = w3.heap.size + 1 := by simp
  have m2 : MapL MS (w3.alloc (.map #[] 0)) w3.heap.size 0 ([] : List (Pl × Int)) := mapL_made w3
  generalize w3.alloc (.map #[] 0) = w4 at *
  have b3 := bAl (bRef w4) (.map #[] 0)
  have z3 : (w4.alloc (.map #[] 0)).heap.size = w4.heap.size + 1 := by simp
  have m3 : MapL ME (w4.alloc (.map #[] 0)) w4.heap.size 0 ([] : List (Pl × (Int × Int))) := mapL_made w4
  generalize w4.alloc (.map #[] 0) = w5 at *
  have ra := heap_alloc_one w5 (.cells #[.slice (some ⟨w.heap.size, 0, none⟩) n n, .int .i64 room, .map (some w2.heap.size), .map (some (w2.heap.size + 1)), .map (some (w2.heap.size + 2))] 81)
  have b4 := bAl (bRef w5) (.cells #[.slice (some ⟨w.heap.size, 0, none⟩) n n, .int .i64 room, .map (some w2.heap.size), .map (some (w2.heap.size + 1)), .map (some (w2.heap.size + 2))] 81)
  generalize w5.alloc (.cells #[.slice (some ⟨w.heap.size, 0, none⟩) n n, .int .i64 room, .map (some w2.heap.size), .map (some (w2.heap.size + 1)), .map (some (w2.heap.size + 2))] 81) = w6 at *
  have c3 := b3.block
  have c4 := b4.block
  have c2 := b2.block
  have c1 := b1.block
  have s2 := hg.size
  refine ⟨⟨?_, ⟨cs, ?_, p2, p3⟩, ?_, ?_, ?_, h1, h8, ?_, Nat.le_refl _, ?_, ?_, ?_, ?_, ?_, ?_⟩, (((B2.trans (b1.mono s2)).trans (b2.mono (by omega))).trans (b3.mono (by omega))).trans (b4.mono (by omega))⟩
  · show w6.heap[w2.heap.size + 3]? = _
    rw [show w2.heap.size + 3 = w5.heap.size by omega]; exact ra
  · show w6.heap[w.heap.size]? = _
    rw [c4 _ (by omega), c3 _ (by omega), c2 _ (by omega), c1 _ (by omega)]; exact p1
  · exact m1.heap ((c4 _ (by omega)).trans ((c3 _ (by omega)).trans (c2 _ (by omega))))
  · show MapL MS w6 (w2.heap.size + 1) 0 _
    rw [show w2.heap.size + 1 = w3.heap.size by omega]
    exact m2.heap ((c4 _ (by omega)).trans (c3 _ (by omega)))
  · show MapL ME w6 (w2.heap.size + 2) 0 _
    rw [show w2.heap.size + 2 = w4.heap.size by omega]
    exact m3.heap (c4 _ (by omega))
  all_goals (simp only; omega)
set_option maxRecDepth 20000 in
theorem new_ok (n : Nat) (room : Int) (w : World) (h1 : 1 ≤ n) (h8 : n ≤ 8) (hr0 : 0 ≤ room) (hr1 : room ≤ 4096) :
    Calls Try.prog 8 #[.int .i64 (n : Int), .int .i64 room] w fun e w' => ∃ b F, e = .returned (.tuple #[.pointer (some ⟨b.t, 0, none⟩), .int .i64 0]) ∧ Tab w.heap.size w' b 0 ⟨n, room, F, [], [], []⟩ ∧ Below w.heap.size w w' := by
  have d1 : decide ((n : Int) < 1) = false := decide_eq_false (by omega)
  have d2 : decide (8 < (n : Int)) = false := decide_eq_false (by omega)
  have d3 : decide (room < 0) = false := decide_eq_false (by omega)
  have d4 : decide (4096 < room) = false := decide_eq_false (by omega)
  go_enter Try.func8, Try.ntmps8
  have hmm := @run_makeMap Try.prog
  obtain ⟨i0, hi, hz0, hz1, hz2⟩ := info_parts Try.infoPort
  go_wp2_with (at_make; refine wpList_make_full _ rfl _ _ 76 rfl w.heap.size 54 i0 (.agg #[.int .i64 0, .int .i64 0, .int .i64 0, .int .i64 0, .int .i64 0, .int .i64 0, .int .i64 0, .int .i64 0, .int .i64 0]) 9 Try.underlying76 hi hz0 hz1 .i64 .i64 _ _ n rfl rfl rfl rfl (by rw [hz2]; omega) (by unfold maxLen; omega) (Nat.le_refl _) ?_; intro w2 hown hgrow; have HO := Lib.hid hown; have HG := Lib.hid hgrow; clear hown hgrow)
  obtain ⟨t1, t2⟩ := tab_new (room := room) (prt_made h1 HO.out) HG.out h1 h8
  go_loopw [35] (fun kv wr => ∃ (k : Nat) (F : Nat → Int), kv = .int .i64 (k : Int) ∧ k ≤ n ∧ Tab w.heap.size wr ⟨w2.heap.size + 3, w.heap.size, w2.heap.size, w2.heap.size + 1, w2.heap.size + 2⟩ 0 ⟨n, room, F, [], [], []⟩ ∧ Below w.heap.size w wr) (fun kv _ => n - (intOf kv).toNat)
  case atStart => exact ⟨0, _, rfl, by omega, t1, t2⟩
  case round =>
    clear t1 t2
    obtain ⟨k, F, rfl, hk, ht, hb⟩ := hrel
    have HT := Lib.hid ht
    have HB := Lib.hid hb
    obtain ⟨c0, -⟩ := ht.cells
    clear ht hb
    rcases Nat.lt_or_ge k n with g1 | g1
    · have hd : decide ((k : Int) < (n : Int)) = true := decide_eq_true (by omega)
      have q0 := HT.out.port (i := k * 9) (by show k * 9 < n * 9; omega)
      have q1 := HT.out.port (i := k * 9 + 1) (by show k * 9 + 1 < n * 9; omega)
      have q2 := HT.out.port (i := k * 9 + 2) (by show k * 9 + 2 < n * 9; omega)
      have q3 := HT.out.port (i := k * 9 + 3) (by show k * 9 + 3 < n * 9; omega)
      have q4 := HT.out.port (i := k * 9 + 4) (by show k * 9 + 4 < n * 9; omega)
      have q5 := HT.out.port (i := k * 9 + 5) (by show k * 9 + 5 < n * 9; omega)
      have q6 := HT.out.port (i := k * 9 + 6) (by show k * 9 + 6 < n * 9; omega)
      have q7 := HT.out.port (i := k * 9 + 7) (by show k * 9 + 7 < n * 9; omega)
      have q8 := HT.out.port (i := k * 9 + 8) (by show k * 9 + 8 < n * 9; omega)
      obtain ⟨q0, f0⟩ := q0
      obtain ⟨q1, f1⟩ := q1
      obtain ⟨q2, f2⟩ := q2
      obtain ⟨q3, f3⟩ := q3
      obtain ⟨q4, f4⟩ := q4
      obtain ⟨q5, f5⟩ := q5
      obtain ⟨q6, f6⟩ := q6
      obtain ⟨q7, f7⟩ := q7
      obtain ⟨q8, f8⟩ := q8
      simp only at q0 q1 q2 q3 q4 q5 q6 q7 q8 f0 f1 f2 f3 f4 f5 f6 f7 f8 c0
      go_wp2_with fail
      exact ⟨⟨k + 1, _, by go_num, by omega, (((((((((HT.out.setP (i := k * 9) (by show k * 9 < n * 9; omega) 1).setP (i := k * 9 + 1) (by show k * 9 + 1 < n * 9; omega) 0).setP (i := k * 9 + 2) (by show k * 9 + 2 < n * 9; omega) 1).setP (i := k * 9 + 3) (by show k * 9 + 3 < n * 9; omega) 2).setP (i := k * 9 + 4) (by show k * 9 + 4 < n * 9; omega) 3).setP (i := k * 9 + 5) (by show k * 9 + 5 < n * 9; omega) 4).setP (i := k * 9 + 6) (by show k * 9 + 6 < n * 9; omega) 5).setP (i := k * 9 + 7) (by show k * 9 + 7 < n * 9; omega) 6).setP (i := k * 9 + 8) (by show k * 9 + 8 < n * 9; omega) 7), (bSet (bSet (bSet (bSet (bSet (bSet (bSet (bSet (bSet HB.out ⟨w.heap.size, k * 9, none⟩ (Nat.le_refl _) _) ⟨w.heap.size, k * 9 + 1, none⟩ (Nat.le_refl _) _) ⟨w.heap.size, k * 9 + 2, none⟩ (Nat.le_refl _) _) ⟨w.heap.size, k * 9 + 3, none⟩ (Nat.le_refl _) _) ⟨w.heap.size, k * 9 + 4, none⟩ (Nat.le_refl _) _) ⟨w.heap.size, k * 9 + 5, none⟩ (Nat.le_refl _) _) ⟨w.heap.size, k * 9 + 6, none⟩ (Nat.le_refl _) _) ⟨w.heap.size, k * 9 + 7, none⟩ (Nat.le_refl _) _) ⟨w.heap.size, k * 9 + 8, none⟩ (Nat.le_refl _) _)⟩, by simp [intOf]; omega⟩
    · obtain rfl : k = n := by omega
      have hd : decide ((k : Int) < (k : Int)) = false := decide_eq_false (by omega)
      go_wp2_with fail
      go_ret2
      exact ⟨(⟨w2.heap.size + 3, w.heap.size, w2.heap.size, w2.heap.size + 1, w2.heap.size + 2⟩ : TB), rfl, ⟨F, HT.out⟩, HB.out⟩

end Go.Proofs.Ytkbodcgamfkegaa
