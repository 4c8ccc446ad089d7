/- Package best: Choose. -/
import Derived.Test.YtihddpoaemhlnaaBtChs
import Derived.Laws.MakeOwn
namespace Go.Proofs.Ytihddpoaemhlnaa
open Go.RowKit Go.Joins

theorem Try.infoI : (Try.prog.info? 3).map (fun i => (i.zero, i.size, i.bytes)) = some (some (.int .i64 0), 1, 8) := by kernel_rfl
theorem info_parts {t : TypeId} {z : Option Value} {s b : Nat} (h : (Try.prog.info? t).map (fun i => (i.zero, i.size, i.bytes)) = some (z, s, b)) : ∃ i, Try.prog.info? t = some i ∧ i.zero = z ∧ i.size = s ∧ i.bytes = b := by
  cases hi : Try.prog.info? t with
  | none => simp [hi] at h
  | some i => simp [hi] at h; exact ⟨i, rfl, h.1, h.2.1, h.2.2⟩
/-- Ints in a row, as cells. -/
def IC (l : List Int) : Array Value := (l.map (Value.int .i64)).toArray
theorem zerosI (n : Nat) : madeCells (Value.int .i64 0).cells n = IC (List.replicate n 0) := by
  apply Array.ext
  · simp [madeCells, IC]
  · intro i h1 h2
    simp [madeCells, IC, Value.cells, Nat.mod_one]
theorem make_ints (n : Nat) (hn : n ≤ 1000000) (w : World) :
    (Instr.makeSlice 40 (.int .i64 (n : Int)) (.int .i64 (n : Int))).run Try.prog w = .ok (.slice (some ⟨w.heap.size, 0, none⟩) n n) (w.alloc (.cells (IC (List.replicate n 0)) 3)) := by
  obtain ⟨i0, hi, hz0, hz1, hz2⟩ := info_parts Try.infoI
  have hr := run_make (P := Try.prog) w 40 3 i0 (.int .i64 0) Try.underlying40 hi hz0 .i64 .i64 n n (by omega) (by omega) (by rw [hz2]; omega) (by omega)
  simp only [Int.toNat_natCast] at hr
  rw [hr, hz1, Nat.mul_one, zerosI]
theorem set_ints {w : World} {g : Nat} {l : List Int} {fr : Nat × Nat} (h : w.heap[g]? = some (.cells (IC l) 3 fr)) (k : Nat) (x : Int) : (w.setCell ⟨g, k, none⟩ (.int .i64 x)).heap[g]? = some (.cells (IC (l.set k x)) 3 fr) := by
  simp [World.setCell, Array.getElem?_modify, h, IC, List.map_set]
/-- What the first k ports are to do; the others are not told yet. -/
def rolesTo (id : Int) (c : Vc) (F : Nat → Hd) (n k : Nat) : List Int := (List.range n).map fun i => if i < k then roleV id c i (F i) else 0
def rolesL (id : Int) (c : Vc) (F : Nat → Hd) (n : Nat) : List Int := (List.range n).map fun (i : Nat) => roleV id c i (F i)
theorem rolesTo_zero (id : Int) (c : Vc) (F : Nat → Hd) (n : Nat) : rolesTo id c F n 0 = List.replicate n 0 := by
  unfold rolesTo
  apply List.ext_getElem
  · simp
  · intro i h1 h2; simp
theorem rolesTo_all (id : Int) (c : Vc) (F : Nat → Hd) (n : Nat) : rolesTo id c F n n = rolesL id c F n := by
  unfold rolesTo rolesL
  apply List.ext_getElem
  · simp
  · intro i h1 h2
    simp at h1
    simp [h1]
theorem rolesTo_succ (id : Int) (c : Vc) (F : Nat → Hd) (n k : Nat) : (rolesTo id c F n k).set k (roleV id c k (F k)) = rolesTo id c F n (k + 1) := by
  unfold rolesTo
  apply List.ext_getElem
  · simp
  · intro i h1 h2
    rw [List.getElem_set]
    by_cases e : k = i
    · subst e; simp
    · rw [if_neg e]
      simp
      by_cases hk : i < k
      · rw [if_pos hk, if_pos (by omega)]
      · rw [if_neg hk, if_neg (by omega)]
theorem rolesTo_len (id : Int) (c : Vc) (F : Nat → Hd) (n k : Nat) : (rolesTo id c F n k).length = n := by unfold rolesTo; simp
theorem rolesL_len (id : Int) (c : Vc) (F : Nat → Hd) (n : Nat) : (rolesL id c F n).length = n := by unfold rolesL; simp
theorem roleV_vals (id : Int) (c : Vc) (k : Int) (h : Hd) : roleV id c k h = 0 ∨ roleV id c k h = 1 ∨ roleV id c k h = 2 ∨ roleV id c k h = 3 := by
  unfold roleV
  split
  · split
    · exact .inr (.inr (.inl rfl))
    · split
      · exact .inr (.inr (.inr rfl))
      · exact .inr (.inl rfl)
  · exact .inl rfl
/-- While the ports are told what to do: b is the chosen one's box. -/
structure ChoW (w : World) (p : Pri) (c : Vc) (b g : Nat) (l : List Int) (wr : World) : Prop where
  bel : Below w.heap.size w wr
  own : wr.heap[w.heap.size]? = some (.cells (PC p) 23 (0, 0))
  res : wr.heap[w.heap.size + 1]? = some (.cells VZ 25 (0, 0))
  chn : wr.heap[b]? = some (.cells (VC c) 25 (0, 0))
  row : wr.heap[g]? = some (.cells (IC l) 3 (0, 0))
  hb : w.heap.size + 1 < b
  hg : b < g
section
variable {w W W' : World} {p : Pri} {c : Vc} {b g : Nat} {l : List Int}
theorem ChoW.below (h : ChoW w p c b g l W) (hb : Below W.heap.size W W') : ChoW w p c b g l W' := ⟨bTr h.bel hb, (hb.block _ (lt_of_heap h.own)).trans h.own, (hb.block _ (lt_of_heap h.res)).trans h.res, (hb.block _ (lt_of_heap h.chn)).trans h.chn, (hb.block _ (lt_of_heap h.row)).trans h.row, h.hb, h.hg⟩
theorem ChoW.set (h : ChoW w p c b g l W) (k : Nat) (x : Int) : ChoW w p c b g (l.set k x) (W.setCell ⟨g, k, none⟩ (.int .i64 x)) := by
  have h1 := h.hb
  have h2 := h.hg
  have key : ∀ i, i ≠ g → (W.setCell ⟨g, k, none⟩ (.int .i64 x)).heap[i]? = W.heap[i]? := fun i hi => heap_setCell_other W ⟨g, k, none⟩ i _ hi
  exact ⟨bSet h.bel _ (by show w.heap.size ≤ g; omega) _, (key _ (by omega)).trans h.own, (key _ (by omega)).trans h.res, (key _ (by omega)).trans h.chn, set_ints h.row k x, h.hb, h.hg⟩
theorem ChoW.start {w w1 : World} {p : Pri} (hb : Below ((w.alloc (.cells (PC p) 23)).alloc (.cells VZ 25)).heap.size ((w.alloc (.cells (PC p) 23)).alloc (.cells VZ 25)) w1) (c : Vc) (n : Nat) :
    ChoW w p c w1.heap.size (w1.heap.size + 1) (List.replicate n 0) ((w1.alloc (.cells (VC c) 25)).alloc (.cells (IC (List.replicate n 0)) 3)) := by
  have hs := hb.size
  simp at hs
  have h1 := bAl (bRef (w.alloc (.cells (PC p) 23))) (.cells VZ 25)
  have h2 := bAl (bRef w1) (.cells (VC c) 25)
  have h3 := bAl (bRef (w1.alloc (.cells (VC c) 25))) (.cells (IC (List.replicate n 0)) 3)
  refine ⟨bAl (bAl (bTr (bAl (bAl (bRef w) _) _) hb) _) _, ?_, ?_, ?_, ?_, by omega, by omega⟩
  · exact (h3.block _ (by simp; omega)).trans ((h2.block _ (by omega)).trans ((hb.block _ (by simp; omega)).trans ((h1.block _ (by simp)).trans (heap_alloc_new w _))))
  · exact (h3.block _ (by simp; omega)).trans ((h2.block _ (by omega)).trans ((hb.block _ (by simp)).trans (by have := heap_alloc_new (w.alloc (.cells (PC p) 23)) (.cells VZ 25); simpa using this)))
  · exact (h3.block _ (by simp)).trans (heap_alloc_new w1 _)
  · have := heap_alloc_new (w1.alloc (.cells (VC c) 25)) (.cells (IC (List.replicate n 0)) 3)
    simpa using this
end
def ChoRel (w : World) (p : Pri) (c : Vc) (F : Nat → Hd) (n b g : Nat) (iv : Value) (wr : World) : Prop := ∃ k : Nat, k ≤ n ∧ iv = .int .i64 (k : Int) ∧ ChoW w p c b g (rolesTo p.id c F n k) wr
/-- What Choose leaves. -/
def Chosen (w : World) (c : Vc) (l : List Int) (e : Ending) (w' : World) : Prop := ∃ g, e = .returned (.tuple #[.agg (VC c), .slice (some ⟨g, 0, none⟩) l.length l.length]) ∧ w.heap.size ≤ g ∧ w'.heap[g]? = some (.cells (IC l) 3 (0, 0)) ∧ Below w.heap.size w w'
set_option maxRecDepth 20000 in
set_option maxHeartbeats 2000000 in
theorem Choose_any (p : Pri) {w : World} {v : Value} {n : Nat} {F : Nat → Hd} (hA : HArg w v n F) (hn : n ≤ 1000000) : Calls Try.prog 18 #[.agg (PC p), v] w (Chosen w (chs p F n) (rolesL p.id (chs p F n) F n)) := by
  obtain ⟨a, c, rfl⟩ := hA.slice
  have HA := Lib.hid hA
  have HN := Lib.hid hn
  have hmk := make_ints n hn
  have HCh := Lib.hid (fun W (hb : Below w.heap.size w W) => choose_any p (hA.below hb) (by omega))
  unfold PC at HCh ⊢
  clear hA
  go_enter Try.func18, Try.ntmps18
  go_wp2_with (first
    | (go_at_call 33; (with_reducible refine (HCh.out _ (bAl (bAl (bRef w) _) _)).mono ?_); rintro e w1 ⟨rfl, hb⟩; have HB := Lib.hid hb; clear hb)
    | ((with_reducible refine at_storeV ?_); refine wpList_storeNW rfl _ _ _ rfl w1.heap.size rfl (VC (chs p F n)) _ _ rfl rfl (by simp [VC, Value.oneCell']) (by kernel_rfl) rfl ?_))
  have HS := Lib.hid (ChoW.start HB.out (chs p F n) n)
  clear hmk
  obtain ⟨b, hbb⟩ : ∃ b, b = w1.heap.size := ⟨_, rfl⟩
  have hsz : (w1.alloc (.cells (VC (chs p F n)) 25)).heap.size = b + 1 := by rw [hbb]; simp
  rw [← hbb] at HS ⊢
  generalize (w1.alloc (.cells (VC (chs p F n)) 25)).alloc (.cells (IC (List.replicate n 0)) 3) = W0 at *
  clear hbb hsz
  generalize chs p F n = cc at *
  go_loopw [18] (fun iv wr => ChoRel w p cc F n b (b + 1) iv wr) (fun iv _ => n - (intOf iv).toNat)
  case atStart => exact ⟨0, by omega, rfl, by rw [rolesTo_zero]; exact HS.out⟩
  case round =>
    clear HS HB HCh
    obtain ⟨k, hk, rfl, hs⟩ := hrel
    have HS := Lib.hid hs
    clear hs
    rcases Nat.lt_or_ge k n with g | g
    · have hd : decide ((k : Int) < (n : Int)) = true := decide_eq_true (by omega)
      obtain ⟨ba, o, rfl, hlt, hall⟩ := HA.out.at (by omega)
      have HR := Lib.hid (fun W (hb : Below w.heap.size w W) => range_below (hall k g) hb hlt)
      clear hall
      have HL := Lib.hid (rolesTo_succ p.id cc F n k)
      have HLn := Lib.hid (rolesTo_len p.id cc F n k)
      have HRo := Lib.hid (fun W => role_any p.id cc k (F k) W)
      generalize roleV p.id cc k (F k) = z at *
      generalize rolesTo p.id cc F n k = l at *
      generalize F k = h at *
      obtain ⟨up, ok, v⟩ := h
      rw [show HC ⟨up, ok, v⟩ = #[.bool up, .bool ok, .int .i64 v.r.one, .int .i64 v.r.cls, .int .i64 v.r.two, .int .i64 v.r.id, .int .i64 v.steps, .int .i64 v.from_, .int .i64 v.port, .int .i64 v.at_] from rfl] at HR HRo
      have cid : wr.cell? ⟨w.heap.size, 3, none⟩ = some (.int .i64 p.id) := cell_of_row _ _ 3 _ _ _ HS.out.own
      have hlo : w.heap.size < wr.heap.size := lt_of_heap HS.out.own
      have hbl : b < wr.heap.size := lt_of_heap HS.out.chn
      have ck : ∃ x, wr.cell? ⟨b + 1, k, none⟩ = some x := ⟨_, (cell_of_row _ _ k _ _ _ HS.out.row).trans (Array.getElem?_eq_getElem (show k < (IC l).size by simpa [IC, HLn.out] using g))⟩
      obtain ⟨x, ck⟩ := ck
      have fk : wr.frozen? ⟨b + 1, k, none⟩ = false := frozen_of_row _ _ _ _ _ HS.out.row
      have hgl : b + 1 < wr.heap.size := lt_of_heap HS.out.row
      go_upto_region 6 with ((with_reducible refine at_loadH ?_); refine wpList_loadW rfl _ _ rfl _ _ rfl #[.bool up, .bool ok, .int .i64 v.r.one, .int .i64 v.r.cls, .int .i64 v.r.two, .int .i64 v.r.id, .int .i64 v.steps, .int .i64 v.from_, .int .i64 v.port, .int .i64 v.at_] _ (HR.out _ HS.out.bel) Try.underlying37 rfl (by kernel_rfl) ?_)
      go_wp2_with (first
        | ((with_reducible refine at_loadV ?_); refine wpList_loadW rfl _ _ rfl _ _ rfl (VC cc) _ (range_whole ((bAl (bRef wr) _).block _ hbl |>.trans HS.out.chn)) Try.underlying25 rfl (by kernel_rfl) ?_)
        | (go_at_call 34; (with_reducible refine (HRo.out _).mono ?_); rintro e w2 ⟨rfl, hb⟩; have HB2 := Lib.hid (bTr (bAl (bRef wr) (.cells #[.bool up, .bool ok, .int .i64 v.r.one, .int .i64 v.r.cls, .int .i64 v.r.two, .int .i64 v.r.id, .int .i64 v.steps, .int .i64 v.from_, .int .i64 v.port, .int .i64 v.at_] 37)) hb); have ck2 := (hb.cell (p := ⟨b + 1, k, none⟩) (by simp; omega)).trans (((bAl (bRef wr) _).cell (p := ⟨b + 1, k, none⟩) hgl).trans ck); have fk2 := (hb.frozen (p := ⟨b + 1, k, none⟩) (by simp; omega)).trans (((bAl (bRef wr) _).frozen (p := ⟨b + 1, k, none⟩) hgl).trans fk); clear hb))
      go_roundw
      case rel => exact ⟨k + 1, by omega, by go_num, by rw [← HL.out]; exact (HS.out.below HB2.out).set k z⟩
      case measure => simp [intOf]; omega
    · obtain rfl : k = n := by omega
      have hd : decide ((k : Int) < (k : Int)) = false := decide_eq_false (by omega)
      have h5 := HS.out.chn
      have h4 := HS.out.res
      have h6 := HS.out.row
      have hb1 := HS.out.hb
      go_wp2_with (first
        | ((with_reducible refine at_loadV ?_); refine wpList_loadW rfl _ _ rfl _ _ rfl (VC cc) _ (range_whole h5) Try.underlying25 rfl (by kernel_rfl) ?_)
        | ((with_reducible refine at_storeV ?_); refine wpList_store_row rfl _ _ _ rfl _ (VC cc) rfl rfl _ _ h4 (by kernel_rfl) rfl (by simp [VC, Value.oneCell']) ?_))
      refine bodyW2 rfl (w.heap.size + 1) (VC cc) (.slice (some ⟨b + 1, 0, none⟩) k k) _ rfl rfl (setRow_heap _ _ _ _ _ _ h4) Try.underlying25 rfl (by kernel_rfl) rfl ?_
      exact ⟨b + 1, by rw [rolesL_len], by omega, by rw [← rolesTo_all]; exact (setRow_other _ _ _ _ (by omega)).trans h6, bRow HS.out.bel _ (by omega) _⟩

end Go.Proofs.Ytihddpoaemhlnaa
