/- Package agenda at byte: what lies in memory; the queue's own methods. -/
import Derived.Test.YtnddiobjojnckaaAgHeap
import Derived.Below
import Derived.WalkKit
import Derived.WalkMore
import Derived.BigQuiet
import Derived.Lib.Hide
import Derived.Lib.SmallJoins
import Derived.Laws.AppendOwnNone
import Derived.Maps.AppendAt
import Derived.Deep.DeepCutAuto
import Derived.Deep.RegionHeld3
import Derived.OrdersHeld
import Derived.Deep.RegionHeld
namespace Go.Proofs.Ytnddiobjojnckaa
open Go.RowKit Go.Joins
namespace AgB
theorem bRef (w : World) : Below w.heap.size w w := Below.refl _ _
theorem bTr {w w1 w2 : World} (h : Below w.heap.size w w1) (k : Below w1.heap.size w1 w2) : Below w.heap.size w w2 := h.trans (k.mono h.size)
theorem bDr {B : Nat} {w w' : World} (h : Below B w w') (n : Nat) : Below B w (w'.drewN n) := ⟨h.os, h.tape, h.output, h.size, h.block⟩
theorem bAl {w w' : World} (h : Below w.heap.size w w') (o : Obj) : Below w.heap.size w (w'.alloc o) := h.alloc h.size o

/-- All that is no row of pointers and no agenda is as it was. -/
def KeptT (ts : List TypeId) (w w' : World) : Prop := ∀ (k : Nat) (o : Obj), w.heap[k]? = some o → (∀ (cs : Array Value) (t : TypeId) (fr : Nat × Nat), o = Obj.cells cs t fr → t ∉ ts) → w'.heap[k]? = some o
theorem KeptT.refl (ts : List TypeId) (w : World) : KeptT ts w w := fun _ _ h _ => h
theorem KeptT.trans {ts : List TypeId} {w w1 w2 : World} (h : KeptT ts w w1) (k : KeptT ts w1 w2) : KeptT ts w w2 := fun i o hi ht => k i o (h i o hi ht) ht
theorem KeptT.wide {ts us : List TypeId} {w w1 : World} (h : KeptT ts w w1) (hs : ∀ t ∈ ts, t ∈ us) : KeptT us w w1 := fun i o hi ht => h i o hi fun cs t fr e hm => ht cs t fr e (hs t hm)
theorem lt_of_heap {w : World} {k : Nat} {o : Obj} (h : w.heap[k]? = some o) : k < w.heap.size := by
  rcases Nat.lt_or_ge k w.heap.size with g | g
  · exact g
  · rw [Array.getElem?_eq_none g] at h; cases h
theorem KeptT.of_below {ts : List TypeId} {w w1 : World} (h : Below w.heap.size w w1) : KeptT ts w w1 := fun i o hi _ => (h.block i (lt_of_heap hi)).trans hi

def EOk (B : Nat) (w : World) (e : Ent) : Prop := B ≤ e.blk ∧ w.heap[e.blk]? = some (.cells #[.int .i64 e.at_, .int .i64 e.turn, .int .u8 e.what] 64 (0, 0))
def ptrs (l : List Ent) : List Value := l.map fun e => .pointer (some ⟨e.blk, 0, none⟩)
theorem ptrs_len (l : List Ent) : (ptrs l).length = l.length := by simp [ptrs]
theorem ptrs_at {l : List Ent} {k : Nat} (h : k < l.length) : (ptrs l)[k]? = some (.pointer (some ⟨(el l k).blk, 0, none⟩)) := by
  unfold ptrs el
  rw [List.getElem?_map, List.getD_eq_getElem?_getD, List.getElem?_eq_getElem h]; rfl
theorem ptrs_one (l : List Ent) : ∀ u ∈ ptrs l, u.oneCell' = true := by
  intro u hu
  obtain ⟨x, _, rfl⟩ := List.mem_map.1 hu
  rfl
def QSt (B : Nat) (w : World) (v : Value) (l : List Ent) : Prop := w.ownsRow B 62 1 v l.length (ptrs l) ∧ ∀ e ∈ l, EOk B w e
/-- An agenda in memory: its block, the time, the number given last, what is to come. -/
def Ag (B : Nat) (w : World) (g : Nat) (now last : Int) (l : List Ent) : Prop := B ≤ g ∧ ∃ v, w.heap[g]? = some (.cells #[.int .i64 now, .int .i64 last, v] 60 (0, 0)) ∧ QSt B w v l

section
variable {B : Nat} {w w' : World} {v : Value} {l : List Ent} {g : Nat} {now last : Int} {e : Ent}
theorem EOk.kept {ts : List TypeId} (h : EOk B w e) (k : KeptT ts w w') (ht : 64 ∉ ts) : EOk B w' e := ⟨h.1, k _ _ h.2 fun cs t fr he => by injection he with _ h2 _; rw [← h2]; exact ht⟩
theorem QSt.below (h : QSt B w v l) (hb : Below w.heap.size w w') : QSt B w' v l := by
  refine ⟨⟨h.1.1, ?_⟩, fun e he => ⟨(h.2 e he).1, (hb.block _ (lt_of_heap (h.2 e he).2)).trans (h.2 e he).2⟩⟩
  rcases h.1.2 with ⟨rfl, hz⟩ | ⟨r, cap, cur, rfl, h1, hg, h3⟩
  · exact .inl ⟨rfl, hz⟩
  · exact .inr ⟨r, cap, cur, rfl, h1, (hb.block r (h.1.lt r (by simp [Value.ownBlock])).2).trans hg, h3⟩
theorem Ag.below (h : Ag B w g now last l) (hb : Below w.heap.size w w') : Ag B w' g now last l := by
  obtain ⟨h0, v, h1, h2⟩ := h
  exact ⟨h0, v, (hb.block g (lt_of_heap h1)).trans h1, h2.below hb⟩
/-- The row of what is to come. -/
theorem QSt.row (h : QSt B w v l) (h0 : 0 < l.length) : ∃ r cap cur, v = .slice (some ⟨r, 0, none⟩) l.length cap ∧ B ≤ r ∧ w.heap[r]? = some (.cells cur 62 (0, 0)) ∧ l.length ≤ cap ∧ cap ≤ maxLen ∧ cur.size = cap ∧ cur.toList.take l.length = ptrs l := by
  rcases h.1.2 with ⟨_, hz⟩ | ⟨r, cap, cur, e, h1, hg, hn, hm, hs, ht⟩
  · omega
  · exact ⟨r, cap, cur, e, h1, hg, hn, hm, by omega, by rw [← ht, Nat.mul_one]⟩
theorem QSt.slice (h : QSt B w v l) : ∃ p c, v = .slice p l.length c := by
  rcases h.1.2 with ⟨rfl, hz⟩ | ⟨r, cap, cur, rfl, _⟩
  · exact ⟨none, 0, by rw [hz]⟩
  · exact ⟨_, cap, rfl⟩
theorem row_cell {r : Nat} {cur : Array Value} (hg : w.heap[r]? = some (.cells cur 62 (0, 0))) (ht : cur.toList.take l.length = ptrs l) {k : Nat} (hk : k < l.length) : w.cell? ⟨r, k, none⟩ = some (.pointer (some ⟨(el l k).blk, 0, none⟩)) := by
  rw [cell_of_row _ _ _ _ _ _ hg]
  have h := ptrs_at hk
  rw [← ht, List.getElem?_take, if_pos hk, Array.getElem?_toList] at h
  exact h
theorem EOk.cells (h : EOk B w e) : w.cell? ⟨e.blk, 0, none⟩ = some (.int .i64 e.at_) ∧ w.cell? ⟨e.blk, 1, none⟩ = some (.int .i64 e.turn) ∧ w.cell? ⟨e.blk, 2, none⟩ = some (.int .u8 e.what) :=
  ⟨cell_of_row _ _ _ _ _ _ h.2, cell_of_row _ _ _ _ _ _ h.2, cell_of_row _ _ _ _ _ _ h.2⟩
end

/-- Less. -/
theorem less_plain (r n cap i j bi bj : Nat) (ai aj ti tj : Int) (w : World) (hi : i < n) (hj : j < n) (c1 : w.cell? ⟨r, i, none⟩ = some (.pointer (some ⟨bi, 0, none⟩))) (c2 : w.cell? ⟨r, j, none⟩ = some (.pointer (some ⟨bj, 0, none⟩)))
    (c3 : w.cell? ⟨bi, 0, none⟩ = some (.int .i64 ai)) (c4 : w.cell? ⟨bj, 0, none⟩ = some (.int .i64 aj)) (c5 : w.cell? ⟨bi, 1, none⟩ = some (.int .i64 ti)) (c6 : w.cell? ⟨bj, 1, none⟩ = some (.int .i64 tj)) :
    Calls Try.prog 49 #[.slice (some ⟨r, 0, none⟩) n cap, .int .i64 (i : Int), .int .i64 (j : Int)] w fun e w' => e = .returned (.bool (if ai = aj then decide (ti < tj) else decide (ai < aj))) ∧ Below w.heap.size w w' := by
  have hz1 : (i : Int) < (n : Int) := by omega
  have hz2 : (j : Int) < (n : Int) := by omega
  by_cases ha : ai = aj
  · have d : (ai != aj) = false := by rw [bne_eq_false_iff_eq]; exact ha
    rw [if_pos ha]
    clear ha
    go_enter Try.func49, Try.ntmps49
    go_wp2_with fail
    go_quiet (fail)
    all_goals go_wp2_with fail
    all_goals go_quiet (fail)
    all_goals go_wp2_with fail
    all_goals
      go_ret
      exact ⟨rfl, by first | exact bDr (bRef w) _ | exact bDr (bDr (bRef w) _) _⟩
  · have d : (ai != aj) = true := by rw [bne_iff_ne]; exact ha
    rw [if_neg ha]
    clear ha
    go_enter Try.func49, Try.ntmps49
    go_wp2_with fail
    go_quiet (fail)
    all_goals go_wp2_with fail
    all_goals go_quiet (fail)
    all_goals go_wp2_with fail
    all_goals
      go_ret
      exact ⟨rfl, by first | exact bDr (bRef w) _ | exact bDr (bDr (bRef w) _) _⟩

theorem less_any {B : Nat} {w : World} {v : Value} {l : List Ent} (h : QSt B w v l) {i j : Nat} (hi : i < l.length) (hj : j < l.length) :
    Calls Try.prog 49 #[v, .int .i64 (i : Int), .int .i64 (j : Int)] w fun e w' => e = .returned (.bool (ltb (el l i) (el l j))) ∧ Below w.heap.size w w' := by
  obtain ⟨r, cap, cur, rfl, h1, hg, hn, hm, hs, ht⟩ := h.row (by omega)
  have k1 := (h.2 _ (el_mem hi)).cells
  have k2 := (h.2 _ (el_mem hj)).cells
  exact less_plain r l.length cap i j _ _ _ _ _ _ w hi hj (row_cell hg ht hi) (row_cell hg ht hj) k1.1 k2.1 k1.2.1 k2.2.1

/-- Len. -/
theorem len_any {B : Nat} {w : World} {v : Value} {l : List Ent} (h : QSt B w v l) :
    Calls Try.prog 48 #[v] w fun e w' => e = .returned (.int .i64 (l.length : Int)) ∧ Below w.heap.size w w' := by
  obtain ⟨p, c, rfl⟩ := h.slice
  clear h
  go_enter Try.func48, Try.ntmps48
  go_wp2_with fail
  go_ret
  exact ⟨rfl, bRef w⟩

/-- Swap. -/
theorem swap_plain (r n cap i j bi bj : Nat) (cur : Array Value) (w : World) (hi : i < n) (hj : j < n) (hg : w.heap[r]? = some (.cells cur 62 (0, 0))) (c1 : w.cell? ⟨r, i, none⟩ = some (.pointer (some ⟨bi, 0, none⟩))) (c2 : w.cell? ⟨r, j, none⟩ = some (.pointer (some ⟨bj, 0, none⟩))) (hij : i ≠ j) :
    Calls Try.prog 50 #[.slice (some ⟨r, 0, none⟩) n cap, .int .i64 (i : Int), .int .i64 (j : Int)] w fun e w' => e = .returned (.tuple #[]) ∧ w' = ((w.setCell ⟨r, i, none⟩ (.pointer (some ⟨bj, 0, none⟩))).setCell ⟨r, j, none⟩ (.pointer (some ⟨bi, 0, none⟩))).drew := by
  have hz1 : (i : Int) < (n : Int) := by omega
  have hz2 : (j : Int) < (n : Int) := by omega
  have f1 := frozen_of_row w r i _ _ hg
  have f2 := frozen_of_row w r j _ _ hg
  clear hg
  go_enter Try.func50, Try.ntmps50
  go_wp2_with fail
  go_region_with (fail)
  all_goals go_wp2_with fail
  all_goals
    refine bodyPost_end (results_none rfl _ _ _) rfl ?_
    exact ⟨rfl, rfl⟩
theorem ptrs_swp (l : List Ent) (i j : Nat) : ptrs (swp l i j) = ((ptrs l).set i (.pointer (some ⟨(el l j).blk, 0, none⟩))).set j (.pointer (some ⟨(el l i).blk, 0, none⟩)) := by
  unfold ptrs swp
  rw [List.map_set, List.map_set]
theorem kept_set {w : World} {r : Nat} {cur : Array Value} {t : TypeId} (hg : w.heap[r]? = some (.cells cur t (0, 0))) (i : Nat) (x : Value) (ts : List TypeId) (ht : t ∈ ts) : KeptT ts w (w.setCell ⟨r, i, none⟩ x) := fun k o hk hn => by
  have hne : k ≠ r := fun e => by
    subst e
    rw [hg] at hk
    injection hk with hk
    exact hn cur t (0, 0) hk.symm ht
  rw [heap_setCell_other w ⟨r, i, none⟩ k x hne]
  exact hk
theorem KeptT.drew {ts : List TypeId} {w w' : World} (h : KeptT ts w w') : KeptT ts w w'.drew := h
theorem bSet {B : Nat} {w w' : World} (h : Below B w w') {r i : Nat} (hr : B ≤ r) (x : Value) : Below B w (w'.setCell ⟨r, i, none⟩ x) := h.setCell hr x
theorem bDrew {B : Nat} {w w' : World} (h : Below B w w') : Below B w w'.drew := ⟨h.os, h.tape, h.output, h.size, h.block⟩
theorem notin1 : 64 ∉ [62] := by decide
theorem notin2 : 64 ∉ [62, 60] := by decide
theorem swap_any {B : Nat} {w : World} {v : Value} {l : List Ent} (h : QSt B w v l) {i j : Nat} (hi : i < l.length) (hj : j < l.length) (hij : i ≠ j) :
    Calls Try.prog 50 #[v, .int .i64 (i : Int), .int .i64 (j : Int)] w fun e w' => e = .returned (.tuple #[]) ∧ QSt B w' v (swp l i j) ∧ Below B w w' ∧ KeptT [62] w w' := by
  obtain ⟨r, cap, cur, rfl, h1, hg, hn, hm, hs, ht⟩ := h.row (by omega)
  refine (swap_plain r l.length cap i j _ _ cur w hi hj hg (row_cell hg ht hi) (row_cell hg ht hj) hij).mono fun e w' hh => ?_
  obtain ⟨rfl, rfl⟩ := hh
  have hg1 := heap_setCell_same w r i cur _ (.pointer (some ⟨(el l j).blk, 0, none⟩)) hg
  have hg2 := heap_setCell_same _ r j _ _ (.pointer (some ⟨(el l i).blk, 0, none⟩)) hg1
  have k1 := kept_set hg i (.pointer (some ⟨(el l j).blk, 0, none⟩)) [62] (by simp)
  have k2 := kept_set hg1 j (.pointer (some ⟨(el l i).blk, 0, none⟩)) [62] (by simp)
  have hk := (k1.trans k2).drew
  refine ⟨rfl, ⟨⟨by rw [ptrs_len, swp_len, Nat.mul_one], .inr ⟨r, cap, _, by rw [swp_len], h1, hg2, by rw [swp_len]; exact hn, hm, by simp [hs], ?_⟩⟩, fun e he => (h.2 e (swp_mem hi hj he)).kept hk notin1⟩, bDrew (bSet (bSet ⟨rfl, rfl, rfl, Nat.le_refl _, fun _ _ => rfl⟩ h1 _) h1 _), hk⟩
  rw [swp_len, Nat.mul_one, ptrs_swp, ← ht]
  simp [List.take_set]

/-- Pop. -/
theorem pop_plain (g r n cap b : Nat) (now last : Int) (cur : Array Value) (w : World) (hgr : r ≠ g) (hn : n < cap) (hc : cap ≤ maxLen) (hs : cur.size = cap) (hA : w.heap[g]? = some (.cells #[.int .i64 now, .int .i64 last, .slice (some ⟨r, 0, none⟩) (n + 1) cap] 60 (0, 0)))
    (hg : w.heap[r]? = some (.cells cur 62 (0, 0))) (c1 : w.cell? ⟨r, n, none⟩ = some (.pointer (some ⟨b, 0, none⟩))) :
    Calls Try.prog 53 #[.pointer (some ⟨g, 2, none⟩)] w fun e w' => e = .returned (.iface 62 (.pointer (some ⟨b, 0, none⟩))) ∧ w' = (w.setCell ⟨r, n, none⟩ (.pointer none)).setCell ⟨g, 2, none⟩ (.slice (some ⟨r, 0, none⟩) n cap) := by
  have c2 : w.cell? ⟨g, 2, none⟩ = some (.slice (some ⟨r, 0, none⟩) (n + 1) cap) := cell_of_row _ _ _ _ _ _ hA
  have f1 := frozen_of_row w r n _ _ hg
  have f2 := frozen_of_row w g 2 _ _ hA
  have hw : wrap64 (n : Int) = (n : Int) := by unfold maxLen at hc; unfold wrap64; omega
  have hgr' : g ≠ r := fun e => hgr e.symm
  have hz : decide ((n : Int) < (n : Int) + 1) = true := decide_eq_true (by omega)
  clear hA hg
  go_enter Try.func53, Try.ntmps53
  go_wp2_with fail
  go_ret
  exact ⟨rfl, rfl⟩
theorem ptrs_take (l : List Ent) (n : Nat) : ptrs (l.take n) = (ptrs l).take n := by unfold ptrs; rw [List.map_take]
theorem neq_tag {w : World} {r g : Nat} {c1 c2 : Array Value} {t1 t2 : TypeId} {f1 f2 : Nat × Nat} (h1 : w.heap[r]? = some (.cells c1 t1 f1)) (h2 : w.heap[g]? = some (.cells c2 t2 f2)) (ht : t1 ≠ t2) : r ≠ g := fun e => by
  subst e
  rw [h1] at h2
  injection h2 with h2
  injection h2 with _ h2 _
  exact ht h2
theorem pop_any {B : Nat} {w : World} {g n : Nat} {now last : Int} {l : List Ent} (h : Ag B w g now last l) (hl : l.length = n + 1) :
    Calls Try.prog 53 #[.pointer (some ⟨g, 2, none⟩)] w fun e w' => e = .returned (.iface 62 (.pointer (some ⟨(el l n).blk, 0, none⟩))) ∧ Ag B w' g now last (l.take n) ∧ EOk B w' (el l n) ∧ Below B w w' ∧ KeptT [62, 60] w w' := by
  obtain ⟨hB, v, hA, hq⟩ := h
  obtain ⟨r, cap, cur, rfl, h1, hg, hn, hm, hs, ht⟩ := hq.row (by omega)
  have hrg := neq_tag hg hA (by decide)
  have hln : (l.take n).length = n := by simp; omega
  rw [hl] at hA hn
  refine (pop_plain g r n cap _ now last cur w hrg (by omega) hm hs hA hg (row_cell hg ht (by omega))).mono fun e w' hh => ?_
  obtain ⟨rfl, rfl⟩ := hh
  have hg1 := heap_setCell_same w r n cur _ (.pointer none) hg
  have hA1 := (heap_setCell_other w ⟨r, n, none⟩ g (.pointer none) (fun e => hrg e.symm)).trans hA
  have hA2 := heap_setCell_same _ g 2 _ _ (.slice (some ⟨r, 0, none⟩) n cap) hA1
  have hg2 := (heap_setCell_other _ ⟨g, 2, none⟩ r (.slice (some ⟨r, 0, none⟩) n cap) hrg).trans hg1
  have k1 := kept_set hg n (.pointer none) [62, 60] (by simp)
  have k2 := kept_set hA1 2 (.slice (some ⟨r, 0, none⟩) n cap) [62, 60] (by simp)
  have hk := k1.trans k2
  refine ⟨rfl, ⟨hB, _, hA2, ⟨by rw [ptrs_len, hln, Nat.mul_one], .inr ⟨r, cap, _, by rw [hln], h1, hg2, by omega, hm, by simp [hs], ?_⟩⟩, fun e he => (hq.2 e (List.mem_of_mem_take he)).kept hk notin2⟩, (hq.2 _ (el_mem (by omega))).kept hk notin2, bSet (bSet ⟨rfl, rfl, rfl, Nat.le_refl _, fun _ _ => rfl⟩ h1 _) hB _, hk⟩
  rw [hln, Nat.mul_one, ptrs_take, ← ht, hl]
  rw [Array.toList_setIfInBounds, List.take_set, List.take_take, Nat.min_eq_left (Nat.le_succ n), List.set_eq_of_length_le (by simp; omega)]

section
variable {ops : Array Oper} {Q : Exit → Act → World → Prop} {S : World → Prop} {fuel : Nat} {listed : Array Bool} {a : Act} {w : World}
theorem put_some (k : Nat) (v : Value) (d : Option Tmp) (hd : d = some k) : a.put d v = { a with tmps := a.tmps.setIfInBounds k v } := by subst hd; rfl
theorem hTake {i k : Nat} {o : Oper} {v : Value} (hi : ops[i]? = some o) (hd : o.dst = some k) (hs : Region.noSelect ops = true) (hf : Region.free .any ops listed i = true) (hr : (Region.ready .any ops listed).contains i = true)
    (hQ : ∀ c a w, Q (.panic c) (a.put o.dst v) w → Q (.panic c) a w) (hw : Region.wanted o (yielded ops a.tmps) = true) (hy : ∀ W, (execOp a.eval o).run Try.prog W = .ok (.value v) W)
    (h : wpAnyH Try.prog .any ops Q (fun _ => True) fuel (listed.setIfInBounds i true) { a with tmps := a.tmps.setIfInBounds k v } w) : wpAnyH Try.prog .any ops Q (fun _ => True) (fuel + 1) listed a w :=
  wpAnyH_take hi hs hf hr hQ (.inl ⟨hw, fun W _ => hy W⟩) trivial (by rw [put_some k v _ hd]; exact h)
/-- The one operation that may come up now. -/
theorem hOne {i k : Nat} {o : Oper} {v : Value} {w' : World} (hr : Region.ready .any ops listed = [i]) (ho : ops[i]? = some o) (hd : o.dst = some k) (hw : Region.wanted o (yielded ops a.tmps) = true) (hx : (execOp a.eval o).run Try.prog w = .ok (.value v) w')
    (h : wpAnyH Try.prog .any ops Q (fun _ => True) fuel (listed.setIfInBounds i true) { a with tmps := a.tmps.setIfInBounds k v } w') : wpAnyH Try.prog .any ops Q (fun _ => True) (fuel + 1) listed a w := by
  refine wpAnyH_ready hr (by simp) (AllReadyH.cons ho (fun K hK => ?_) AllReadyH.nil)
  rw [if_pos hw]
  unfold Oper.wp
  rw [hx]
  exact hK _ _ trivial (fun _ => by rw [put_some k v _ hd]; exact h)
theorem hOneN {i : Nat} {o : Oper} {w' : World} (hr : Region.ready .any ops listed = [i]) (ho : ops[i]? = some o) (hd : o.dst = none) (hw : Region.wanted o (yielded ops a.tmps) = true) (hx : (execOp a.eval o).run Try.prog w = .ok .skip w')
    (h : wpAnyH Try.prog .any ops Q (fun _ => True) fuel (listed.setIfInBounds i true) a w') : wpAnyH Try.prog .any ops Q (fun _ => True) (fuel + 1) listed a w := by
  refine wpAnyH_ready hr (by simp) (AllReadyH.cons ho (fun K hK => ?_) AllReadyH.nil)
  rw [if_pos hw]
  unfold Oper.wp
  rw [hx]
  exact hK _ _ trivial (fun _ => by rw [hd]; exact h)
/-- One of two. -/
theorem hTwo {i j k m : Nat} {o p : Oper} {u v : Value} {w' w2 : World} (hr : Region.ready .any ops listed = [i, j]) (ho : ops[i]? = some o) (hp : ops[j]? = some p) (hd : o.dst = some k) (hd2 : p.dst = some m) (hw : Region.wanted o (yielded ops a.tmps) = true) (hw2 : Region.wanted p (yielded ops a.tmps) = true)
    (hx : (execOp a.eval o).run Try.prog w = .ok (.value v) w') (hx2 : (execOp a.eval p).run Try.prog w = .ok (.value u) w2)
    (h : wpAnyH Try.prog .any ops Q (fun _ => True) fuel (listed.setIfInBounds i true) { a with tmps := a.tmps.setIfInBounds k v } w') (h2 : wpAnyH Try.prog .any ops Q (fun _ => True) fuel (listed.setIfInBounds j true) { a with tmps := a.tmps.setIfInBounds m u } w2) : wpAnyH Try.prog .any ops Q (fun _ => True) (fuel + 1) listed a w := by
  refine wpAnyH_ready hr (by simp) (AllReadyH.cons ho (fun K hK => ?_) (AllReadyH.cons hp (fun K hK => ?_) AllReadyH.nil))
  · rw [if_pos hw]
    unfold Oper.wp
    rw [hx]
    exact hK _ _ trivial (fun _ => by rw [put_some k v _ hd]; exact h)
  · rw [if_pos hw2]
    unfold Oper.wp
    rw [hx2]
    exact hK _ _ trivial (fun _ => by rw [put_some m u _ hd2]; exact h2)
end

theorem app_op {a : Act} {o : Oper} {w w' : World} {v u v' : Value} (s x : Operand) (T : TypeId) (ho : o.op = .call { callee := .builtin .append, args := #[s, x], argTypes := #[T, T] }) (hs : a.eval s = v) (hx : a.eval x = u)
    (hr : ∀ ty, (Builtin.append_ #[T, T] ty #[v, u]).run Try.prog w = .ok v' w') : (execOp a.eval o).run Try.prog w = .ok (.value v') w' := by
  unfold execOp
  simp only [ho, resolve, invoke, builtin, Sem.run_bind, Sem.run_pure, Result.andThen_ok, List.map_toArray, List.map_cons, List.map_nil, hs, hx, hr]

/-- Push. -/
theorem Try.infoPB : (Try.prog.info? 62).map (fun i => (i.zero, i.size, i.bytes)) = some (some (.pointer none), 1, 8) := by kernel_rfl
theorem assert_ptr (x : Value) (w : World) : (Instr.typeAssert (.iface 62 x) 20 62 false).run Try.prog w = .ok x w := by kernel_rfl
theorem push_plain (g b : Nat) (now last : Int) (v v' : Value) (w w' : World) (hA : w.heap[g]? = some (.cells #[.int .i64 now, .int .i64 last, v] 60 (0, 0)))
    (ha : ∀ ty, (Builtin.append_ #[58, 58] ty #[v, .slice (some ⟨w.heap.size, 0, none⟩) 1 1]).run Try.prog (w.drew.alloc (.cells #[.pointer (some ⟨b, 0, none⟩)] 62)) = .ok v' w')
    (hA' : w'.heap[g]? = some (.cells #[.int .i64 now, .int .i64 last, v] 60 (0, 0))) (hv : ∃ p n c, v = .slice p n c) (hv2 : ∃ p n c, v' = .slice p n c) :
    Calls Try.prog 54 #[.pointer (some ⟨g, 2, none⟩), .iface 62 (.pointer (some ⟨b, 0, none⟩))] w fun e w2 => e = .returned (.tuple #[]) ∧ w2 = w'.setCell ⟨g, 2, none⟩ v' := by
  obtain ⟨p, n, c, rfl⟩ := hv
  obtain ⟨p2, n2, c2', rfl⟩ := hv2
  have c2 : w.cell? ⟨g, 2, none⟩ = some (.slice p n c) := cell_of_row _ _ _ _ _ _ hA
  have hlt := lt_of_heap hA
  have c3 : (w.drew.alloc (.cells #[.pointer (some ⟨b, 0, none⟩)] 62)).cell? ⟨g, 2, none⟩ = some (.slice p n c) := cell_of_row _ _ _ _ _ _ ((heap_alloc_old w.drew _ hlt).trans hA)
  have c4 : w'.cell? ⟨g, 2, none⟩ = some (.slice p n c) := cell_of_row _ _ _ _ _ _ hA'
  have f1 := frozen_of_row w' g 2 _ _ hA'
  have HA' := Lib.hid ha
  have ta := assert_ptr (.pointer (some ⟨b, 0, none⟩))
  clear hA hA' ha
  go_enter Try.func54, Try.ntmps54
  go_wp2_with fail
  refine wp_region_held_drew (S := fun _ => True) (by kernel_rfl) trivial (fun _ => ?_)
  refine hTake (i := 0) (k := 4) (v := .pointer (some ⟨g, 2, none⟩)) rfl rfl (by kernel_rfl) (by kernel_rfl) (by kernel_rfl) (fun _ _ _ h => h) (by rfl) (by intro W; go_simp) ?_
  simp only [List.setIfInBounds_toArray, List.set_cons_zero, List.set_cons_succ]
  refine hTake (i := 1) (k := 5) (v := .pointer (some ⟨g, 2, none⟩)) rfl rfl (by kernel_rfl) (by kernel_rfl) (by kernel_rfl) (fun _ _ _ h => h) (by rfl) (by intro W; go_simp) ?_
  simp only [List.setIfInBounds_toArray, List.set_cons_zero, List.set_cons_succ]
  refine hTake (i := 2) (k := 6) (v := .pointer (some ⟨g, 2, none⟩)) rfl rfl (by kernel_rfl) (by kernel_rfl) (by kernel_rfl) (fun _ _ _ h => h) (by rfl) (by intro W; go_simp) ?_
  simp only [List.setIfInBounds_toArray, List.set_cons_zero, List.set_cons_succ]
  refine hTake (i := 4) (k := 8) (v := .iface 62 (.pointer (some ⟨b, 0, none⟩))) rfl rfl (by kernel_rfl) (by kernel_rfl) (by kernel_rfl) (fun _ _ _ h => h) (by rfl) (by intro W; go_simp) ?_
  simp only [List.setIfInBounds_toArray, List.set_cons_zero, List.set_cons_succ]
  refine hTake (i := 5) (k := 9) (v := .pointer (some ⟨b, 0, none⟩)) rfl rfl (by kernel_rfl) (by kernel_rfl) (by kernel_rfl) (fun _ _ _ h => h) (by rfl) (by intro W; go_simp) ?_
  simp only [List.setIfInBounds_toArray, List.set_cons_zero, List.set_cons_succ]
  have c2d : w.drew.cell? ⟨g, 2, none⟩ = some (.slice p n c) := c2
  refine hTwo (i := 3) (j := 6) (k := 7) (m := 10) (v := .slice p n c) (u := .slice (some ⟨w.heap.size, 0, none⟩) 1 1) (w' := w.drew) (w2 := w.drew.alloc (.cells #[.pointer (some ⟨b, 0, none⟩)] 62)) (by kernel_rfl) rfl rfl rfl rfl (by rfl) (by rfl) (by go_simp) (by go_simp) ?_ ?_
  all_goals simp only [List.setIfInBounds_toArray, List.set_cons_zero, List.set_cons_succ]
  · refine hOne (i := 6) (k := 10) (v := .slice (some ⟨w.heap.size, 0, none⟩) 1 1) (w' := w.drew.alloc (.cells #[.pointer (some ⟨b, 0, none⟩)] 62)) (by kernel_rfl) rfl rfl (by rfl) (by go_simp) ?_
    simp only [List.setIfInBounds_toArray, List.set_cons_zero, List.set_cons_succ]
    refine hOne (i := 7) (k := 11) (v := .slice p2 n2 c2') (w' := w') (by kernel_rfl) rfl rfl (by rfl) (app_op (.tmp 7) (.tmp 10) 58 rfl rfl rfl HA'.out) ?_
    simp only [List.setIfInBounds_toArray, List.set_cons_zero, List.set_cons_succ]
    refine hTake (i := 8) (k := 12) (v := .pointer (some ⟨g, 2, none⟩)) rfl rfl (by kernel_rfl) (by kernel_rfl) (by kernel_rfl) (fun _ _ _ h => h) (by rfl) (by intro W; go_simp) ?_
    simp only [List.setIfInBounds_toArray, List.set_cons_zero, List.set_cons_succ]
    refine hOneN (i := 9) (w' := w'.setCell ⟨g, 2, none⟩ (.slice p2 n2 c2')) (by kernel_rfl) rfl rfl (by rfl) (by go_simp) ?_
    refine wpAnyH_done (by kernel_rfl) ?_ _
    go_wp2_with fail
    refine bodyPost_end (results_none rfl _ _ _) rfl ?_
    exact ⟨rfl, rfl⟩
  · refine hOne (i := 3) (k := 7) (v := .slice p n c) (w' := w.drew.alloc (.cells #[.pointer (some ⟨b, 0, none⟩)] 62)) (by kernel_rfl) rfl rfl (by rfl) (by go_simp) ?_
    simp only [List.setIfInBounds_toArray, List.set_cons_zero, List.set_cons_succ]
    refine hOne (i := 7) (k := 11) (v := .slice p2 n2 c2') (w' := w') (by kernel_rfl) rfl rfl (by rfl) (app_op (.tmp 7) (.tmp 10) 58 rfl rfl rfl HA'.out) ?_
    simp only [List.setIfInBounds_toArray, List.set_cons_zero, List.set_cons_succ]
    refine hTake (i := 8) (k := 12) (v := .pointer (some ⟨g, 2, none⟩)) rfl rfl (by kernel_rfl) (by kernel_rfl) (by kernel_rfl) (fun _ _ _ h => h) (by rfl) (by intro W; go_simp) ?_
    simp only [List.setIfInBounds_toArray, List.set_cons_zero, List.set_cons_succ]
    refine hOneN (i := 9) (w' := w'.setCell ⟨g, 2, none⟩ (.slice p2 n2 c2')) (by kernel_rfl) rfl rfl (by rfl) (by go_simp) ?_
    refine wpAnyH_done (by kernel_rfl) ?_ _
    go_wp2_with fail
    refine bodyPost_end (results_none rfl _ _ _) rfl ?_
    exact ⟨rfl, rfl⟩

theorem push_any {B : Nat} {w : World} {g : Nat} {now last : Int} {l : List Ent} {e : Ent} (h : Ag B w g now last l) (he : EOk B w e) (hl : l.length < 1000000) :
    Calls Try.prog 54 #[.pointer (some ⟨g, 2, none⟩), .iface 62 (.pointer (some ⟨e.blk, 0, none⟩))] w fun e' w' => e' = .returned (.tuple #[]) ∧ Ag B w' g now last (l ++ [e]) ∧ Below B w w' ∧ KeptT [62, 60] w w' := by
  obtain ⟨hB, v, hA, hq⟩ := h
  obtain ⟨i0, hi, hz0, hz1, hz2⟩ := info_parts Try.infoPB
  have hltB : B < w.heap.size := Nat.lt_of_le_of_lt hB (lt_of_heap hA)
  obtain ⟨W, hW⟩ : ∃ W, W = w.drew.alloc (.cells #[.pointer (some ⟨e.blk, 0, none⟩)] 62) := ⟨_, rfl⟩
  have hBW : Below w.heap.size w W := by rw [hW]; exact Below.alloc (bDrew (bRef w)) (Nat.le_refl _) _
  have hqW := hq.below hBW
  have hAW := (hBW.block g (lt_of_heap hA)).trans hA
  have hnew : ∀ j u, ([.pointer (some ⟨e.blk, 0, none⟩)] : List Value)[j]? = some u → W.cell? ((⟨w.heap.size, 0, none⟩ : Addr).add j) = some u := by rw [hW]; exact cell_one_new w.drew _ _
  have hsz : W.heap.size = w.heap.size + 1 := by rw [hW]; simp
  have key : ∀ ty, ∃ v' w', (Builtin.append_ #[58, 58] ty #[v, .slice (some ⟨w.heap.size, 0, none⟩) 1 1]).run Try.prog W = .ok v' w' ∧ w'.ownsRow B 62 1 v' (l.length + 1) (ptrs l ++ [.pointer (some ⟨e.blk, 0, none⟩)]) ∧ W.grownBy w' v.ownBlock ∧ (v' = .slice none 0 0 ↔ v = .slice none 0 0 ∧ 1 = 0) ∧ (v'.ownBlock = v.ownBlock ∨ v'.ownBlock = some W.heap.size) := fun ty =>
    run_append_own_at W B 58 ty 62 i0 _ 1 8 Try.underlying58 hi hz0 hz1 hz2 rfl (by decide) v l.length (ptrs l) hqW.1 ⟨w.heap.size, 0, none⟩ 1 1 [.pointer (some ⟨e.blk, 0, none⟩)] rfl hnew (by intro u hu; simp at hu; rw [hu]; rfl) (by unfold maxLen; omega) (by omega) (by omega)
  obtain ⟨v', w', hr, hown, hgr, hnil, hat⟩ := key 58
  have hr' : ∀ ty, (Builtin.append_ #[58, 58] ty #[v, .slice (some ⟨w.heap.size, 0, none⟩) 1 1]).run Try.prog W = .ok v' w' := fun ty => hr
  have hvown : ∀ k, v.ownBlock = some k → ∃ cur, W.heap[k]? = some (.cells cur 62 (0, 0)) := by
    intro k hk
    rcases hqW.1.2 with ⟨rfl, _⟩ | ⟨r, cap, cur, rfl, _, hg, _⟩
    · simp [Value.ownBlock] at hk
    · simp [Value.ownBlock] at hk
      subst hk
      exact ⟨cur, hg⟩
  have kW : KeptT [62, 60] W w' := fun k o hk hn => by
    rw [hgr.block k (lt_of_heap hk) (fun e => ?_)]
    · exact hk
    · obtain ⟨cur, hc⟩ := hvown k e.symm
      rw [hk] at hc
      injection hc with hc
      exact hn cur _ _ hc (by simp)
  have hA' : w'.heap[g]? = some (.cells #[.int .i64 now, .int .i64 last, v] 60 (0, 0)) := by
    rw [hgr.block g (lt_of_heap hAW) (fun e => ?_)]
    · exact hAW
    · obtain ⟨cur, hc⟩ := hvown g e.symm
      exact neq_tag hc hAW (by decide) rfl
  have hv : ∃ p n c, v = .slice p n c := by obtain ⟨p, c, e⟩ := hq.slice; exact ⟨p, _, c, e⟩
  have hv2 : ∃ p n c, v' = .slice p n c := by
    rcases hown.2 with ⟨e, _⟩ | ⟨r, cap, cur, e, _⟩
    · exact ⟨_, _, _, e⟩
    · exact ⟨_, _, _, e⟩
  refine (push_plain g e.blk now last v v' w w' hA (fun ty => by rw [← hW]; exact hr' ty) hA' hv hv2).mono fun e' w2 hh => ?_
  obtain ⟨rfl, rfl⟩ := hh
  have hA2 := heap_setCell_same w' g 2 _ _ v' hA'
  have kS := kept_set hA' 2 v' [62, 60] (by simp)
  have hk : KeptT [62, 60] w (w'.setCell ⟨g, 2, none⟩ v') := ((KeptT.of_below hBW).trans kW).trans kS
  have hBw : Below B w w' := (hBW.mono (Nat.le_of_lt hltB)).grown hgr (by omega) (fun k hk => (hqW.1.lt k hk).1)
  have e1 : ptrs (l ++ [e]) = ptrs l ++ [.pointer (some ⟨e.blk, 0, none⟩)] := by simp [ptrs]
  refine ⟨rfl, ⟨hB, v', hA2, ⟨⟨by rw [ptrs_len, Nat.mul_one], ?_⟩, fun x hx => ?_⟩⟩, bSet hBw hB _, hk⟩
  · rcases hown.2 with ⟨_, hz⟩ | ⟨r, cap, cur, e2, h1, hg, h3⟩
    · omega
    · refine .inr ⟨r, cap, cur, by rw [e2]; simp, h1, (heap_setCell_other w' ⟨g, 2, none⟩ r v' (neq_tag hg hA' (by decide))).trans hg, ?_⟩
      rw [e1]
      simpa using h3
  · rcases List.mem_append.1 hx with hx | hx
    · exact (hq.2 x hx).kept hk notin2
    · simp at hx
      subst hx
      exact he.kept hk notin2

end AgB
end Go.Proofs.Ytnddiobjojnckaa
