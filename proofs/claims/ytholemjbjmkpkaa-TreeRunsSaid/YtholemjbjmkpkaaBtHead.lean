/- Package best: choose. -/
import Derived.Test.YtholemjbjmkpkaaBtRow
import Derived.Laws.MakeOwn
namespace Go.Proofs.Ytholemjbjmkpkaa
open Go.RowKit Go.Joins

/-- What ports have heard, that is read. -/
def HArg (w : World) (v : Value) (n : Nat) (F : Nat → Hd) : Prop :=
  (n = 0 ∧ ∃ a c, v = .slice a 0 c) ∨ (0 < n ∧ ∃ b o c, v = .slice (some ⟨b, o, none⟩) n c ∧ b < w.heap.size ∧ ∀ k, k < n → w.rangeAt b (o + k * 10) (HC (F k)).toList)
theorem range_below {w w' : World} {b o : Nat} {l : List Value} (h : w.rangeAt b o l) (hb : Below w.heap.size w w') (hl : b < w.heap.size) : w'.rangeAt b o l := fun j v hj => (hb.cell (p := ⟨b, o + j, none⟩) hl).trans (h j v hj)
theorem HArg.below {w w' : World} {v : Value} {n : Nat} {F : Nat → Hd} (h : HArg w v n F) (hb : Below w.heap.size w w') : HArg w' v n F := by
  rcases h with h | ⟨h0, b, o, c, e, h1, h2⟩
  · exact .inl h
  · exact .inr ⟨h0, b, o, c, e, Nat.lt_of_lt_of_le h1 hb.size, fun k hk => range_below (h2 k hk) hb h1⟩
theorem HArg.slice {w : World} {v : Value} {n : Nat} {F : Nat → Hd} (h : HArg w v n F) : ∃ p c, v = .slice p n c := by
  rcases h with ⟨rfl, p, c, rfl⟩ | ⟨_, b, o, c, rfl, _⟩
  · exact ⟨p, c, rfl⟩
  · exact ⟨_, c, rfl⟩
theorem HArg.at {w : World} {p : Option Addr} {n c : Nat} {F : Nat → Hd} (h : HArg w (.slice p n c) n F) (h0 : 0 < n) : ∃ b o, p = some ⟨b, o, none⟩ ∧ b < w.heap.size ∧ ∀ k, k < n → w.rangeAt b (o + k * 10) (HC (F k)).toList := by
  rcases h with ⟨e, _⟩ | ⟨_, b, o, c', e, h1, h2⟩
  · omega
  · injection e with e1 e2 e3
    exact ⟨b, o, e1, h1, h2⟩

def own0 (p : Pri) : Vc := ⟨p, 0, p.id, 0, -1⟩
def atV (v : Vc) (k : Int) : Vc := { v with at_ := k }
def takeB (p : Pri) (c : Vc) (k : Nat) (h : Hd) : Bool := ((h.up && h.ok) && decide (h.v.r.cmp p < 0)) && decide ((atV h.v k).cmp c < 0)
def chs (p : Pri) (F : Nat → Hd) : Nat → Vc
  | 0 => own0 p
  | k + 1 => if takeB p (chs p F k) k (F k) then atV (F k).v k else chs p F k
theorem chs_succ (p : Pri) (F : Nat → Hd) (k : Nat) : chs p F (k + 1) = if takeB p (chs p F k) k (F k) then atV (F k).v k else chs p F k := rfl
def VZ : Array Value := #[.int .i64 0, .int .i64 0, .int .i64 0, .int .i64 0, .int .i64 0, .int .i64 0, .int .i64 0, .int .i64 0]
/-- While the ports are gone through. -/
structure ChsW (w : World) (p : Pri) (c : Vc) (wr : World) : Prop where
  bel : Below w.heap.size w wr
  own : wr.heap[w.heap.size]? = some (.cells (PC p) 23 (0, 0))
  res : wr.heap[w.heap.size + 1]? = some (.cells VZ 25 (0, 0))
  chn : wr.heap[w.heap.size + 2]? = some (.cells (VC c) 25 (0, 0))
section
variable {w W W' : World} {p : Pri} {c : Vc}
theorem ChsW.below (h : ChsW w p c W) (hb : Below W.heap.size W W') : ChsW w p c W' := ⟨bTr h.bel hb, (hb.block _ (lt_of_heap h.own)).trans h.own, (hb.block _ (lt_of_heap h.res)).trans h.res, (hb.block _ (lt_of_heap h.chn)).trans h.chn⟩
theorem ChsW.set (h : ChsW w p c W) (c' : Vc) : ChsW w p c' (W.setRow (w.heap.size + 2) (VC c')) :=
  ⟨bRow h.bel _ (by omega) _, (setRow_other W _ _ _ (by omega)).trans h.own, (setRow_other W _ _ _ (by omega)).trans h.res, setRow_heap _ _ _ _ _ _ h.chn⟩
theorem ChsW.start (w : World) (p : Pri) (c : Vc) : ChsW w p c (((w.alloc (.cells (PC p) 23)).alloc (.cells VZ 25)).alloc (.cells (VC c) 25)) := by
  have h1 := bAl (bRef (w.alloc (.cells (PC p) 23))) (.cells VZ 25)
  have h2 := bAl (bRef ((w.alloc (.cells (PC p) 23)).alloc (.cells VZ 25))) (.cells (VC c) 25)
  refine ⟨bAl (bAl (bAl (bRef w) _) _) _, ?_, ?_, ?_⟩
  · exact (h2.block _ (by simp; omega)).trans ((h1.block _ (by simp)).trans (heap_alloc_new w _))
  · exact (h2.block _ (by simp)).trans (by have := heap_alloc_new (w.alloc (.cells (PC p) 23)) (.cells VZ 25); simpa using this)
  · have := heap_alloc_new ((w.alloc (.cells (PC p) 23)).alloc (.cells VZ 25)) (.cells (VC c) 25)
    simpa using this
end
theorem range_whole {W : World} {b : Nat} {cs : Array Value} {t : TypeId} {fr : Nat × Nat} (hg : W.heap[b]? = some (.cells cs t fr)) : W.rangeAt b 0 cs.toList := range_of_row hg 0 _ (fun j v h => by rw [Nat.zero_add]; simpa using h)
def ChsRel (w : World) (p : Pri) (F : Nat → Hd) (n : Nat) (iv : Value) (wr : World) : Prop := ∃ k : Nat, k ≤ n ∧ iv = .int .i64 (k : Int) ∧ ChsW w p (chs p F k) wr
set_option maxRecDepth 20000 in
set_option maxHeartbeats 2000000 in
theorem choose_any (p : Pri) {w : World} {v : Value} {n : Nat} {F : Nat → Hd} (hA : HArg w v n F) (hn : n ≤ 140737488355328) : Calls Try.prog 33 #[.agg (PC p), v] w fun e w' => e = .returned (.agg (VC (chs p F n))) ∧ Below w.heap.size w w' := by
  obtain ⟨a, c, rfl⟩ := hA.slice
  have HA := Lib.hid hA
  have HS := Lib.hid (ChsW.start w p (own0 p))
  have HN := Lib.hid hn
  clear hA
  unfold PC own0 at HS
  rw [show VC (⟨p, 0, p.id, 0, -1⟩ : Vc) = #[.int .i64 p.one, .int .i64 p.cls, .int .i64 p.two, .int .i64 p.id, .int .i64 0, .int .i64 p.id, .int .i64 0, .int .i64 (-1)] from rfl, show VZ = #[.int .i64 0, .int .i64 0, .int .i64 0, .int .i64 0, .int .i64 0, .int .i64 0, .int .i64 0, .int .i64 0] from rfl] at HS
  unfold PC
  go_enter Try.func33, Try.ntmps33
  go_wp2_with fail
  generalize ((w.alloc (.cells #[.int .i64 p.one, .int .i64 p.cls, .int .i64 p.two, .int .i64 p.id] 23)).alloc (.cells #[.int .i64 0, .int .i64 0, .int .i64 0, .int .i64 0, .int .i64 0, .int .i64 0, .int .i64 0, .int .i64 0] 25)).alloc (.cells #[.int .i64 p.one, .int .i64 p.cls, .int .i64 p.two, .int .i64 p.id, .int .i64 0, .int .i64 p.id, .int .i64 0, .int .i64 (-1)] 25) = W0 at *
  go_loopw [15] (fun iv wr => ChsRel w p F n iv wr) (fun iv _ => n - (intOf iv).toNat)
  case atStart => exact ⟨0, by omega, rfl, HS.out⟩
  case round =>
    clear HS
    obtain ⟨k, hk, rfl, hs⟩ := hrel
    have HS := Lib.hid hs
    clear hs
    rcases Nat.lt_or_ge k n with g | g
    · have hd : decide ((k : Int) < (n : Int)) = true := decide_eq_true (by omega)
      obtain ⟨b, o, rfl, hlt, hall⟩ := HA.out.at (by omega)
      have HR := Lib.hid (fun W (hb : Below w.heap.size w W) => range_below (hall k g) hb hlt)
      clear hall
      have HC' : Hid (chs p F (k + 1) = if takeB p (chs p F k) k (F k) then atV (F k).v k else chs p F k) := Lib.hid (chs_succ p F k)
      generalize chs p F k = cc at *
      generalize F k = h at *
      obtain ⟨up, ok, v⟩ := h
      have HW1 := Lib.hid (HS.out.below (bAl (bAl (bRef wr) (.cells (HC ⟨up, ok, v⟩) 37)) (.cells (VC (atV v k)) 25)))
      have H7 := Lib.hid (show ((wr.alloc (.cells (HC ⟨up, ok, v⟩) 37)).alloc (.cells (VC (atV v k)) 25)).heap[wr.heap.size]? = some (.cells (HC ⟨up, ok, v⟩) 37 (0, 0)) from ((bAl (bRef _) _).block _ (by simp)).trans (heap_alloc_new wr _))
      have H8 := Lib.hid (show ((wr.alloc (.cells (HC ⟨up, ok, v⟩) 37)).alloc (.cells (VC (atV v k)) 25)).heap[wr.heap.size + 1]? = some (.cells (VC (atV v k)) 25 (0, 0)) from by have := heap_alloc_new (wr.alloc (.cells (HC ⟨up, ok, v⟩) 37)) (.cells (VC (atV v k)) 25); simpa using this)
      rw [show HC ⟨up, ok, v⟩ = #[.bool up, .bool ok, .int .i64 v.r.one, .int .i64 v.r.cls, .int .i64 v.r.two, .int .i64 v.r.id, .int .i64 v.steps, .int .i64 v.from_, .int .i64 v.port, .int .i64 v.at_] from rfl, show VC (atV v k) = #[.int .i64 v.r.one, .int .i64 v.r.cls, .int .i64 v.r.two, .int .i64 v.r.id, .int .i64 v.steps, .int .i64 v.from_, .int .i64 v.port, .int .i64 (k : Int)] from rfl] at HW1 H7 H8
      rw [show HC ⟨up, ok, v⟩ = #[.bool up, .bool ok, .int .i64 v.r.one, .int .i64 v.r.cls, .int .i64 v.r.two, .int .i64 v.r.id, .int .i64 v.steps, .int .i64 v.from_, .int .i64 v.port, .int .i64 v.at_] from rfl] at HR
      have hsz := HS.out.bel.size
      go_upto_region 7 with ((with_reducible refine at_loadH ?_); refine wpList_loadW rfl _ _ rfl _ _ rfl #[.bool up, .bool ok, .int .i64 v.r.one, .int .i64 v.r.cls, .int .i64 v.r.two, .int .i64 v.r.id, .int .i64 v.steps, .int .i64 v.from_, .int .i64 v.port, .int .i64 v.at_] _ (HR.out _ HS.out.bel) Try.underlying37 rfl (by kernel_rfl) ?_)
      generalize (wr.alloc (.cells #[.bool up, .bool ok, .int .i64 v.r.one, .int .i64 v.r.cls, .int .i64 v.r.two, .int .i64 v.r.id, .int .i64 v.steps, .int .i64 v.from_, .int .i64 v.port, .int .i64 v.at_] 37)).alloc (.cells #[.int .i64 v.r.one, .int .i64 v.r.cls, .int .i64 v.r.two, .int .i64 v.r.id, .int .i64 v.steps, .int .i64 v.from_, .int .i64 v.port, .int .i64 (k : Int)] 25) = W1 at *
      have c7u : W1.cell? ⟨wr.heap.size, 0, none⟩ = some (.bool up) := cell_of_row _ _ 0 _ _ _ H7.out
      have c7o : W1.cell? ⟨wr.heap.size, 1, none⟩ = some (.bool ok) := cell_of_row _ _ 1 _ _ _ H7.out
      have HPc := Lib.hid (fun W => pcmp_any v.r p W)
      have HVc := Lib.hid (fun W => vcmp_any (atV v k) cc W)
      unfold PC at HPc
      rw [show VC (atV v k) = #[.int .i64 v.r.one, .int .i64 v.r.cls, .int .i64 v.r.two, .int .i64 v.r.id, .int .i64 v.steps, .int .i64 v.from_, .int .i64 v.port, .int .i64 (k : Int)] from rfl] at HVc
      have HT : Hid (takeB p cc k ⟨up, ok, v⟩ = (((up && ok) && decide (v.r.cmp p < 0)) && decide ((atV v k).cmp cc < 0))) := Lib.hid rfl
      generalize takeB p cc k ⟨up, ok, v⟩ = tk at *
      generalize v.r.cmp p = z1 at *
      generalize (atV v k).cmp cc = z2 at *
      clear hsz
      cases up with
      | false =>
        obtain rfl : tk = false := HT.out
        go_wp2_with fail
        go_roundw
        case rel => exact ⟨k + 1, by omega, by go_num, by rw [HC'.out]; exact HW1.out⟩
        case measure => simp [intOf]; omega
      | true =>
      cases ok with
      | false =>
        obtain rfl : tk = false := HT.out
        go_wp2_with fail
        go_roundw
        case rel => exact ⟨k + 1, by omega, by go_num, by rw [HC'.out]; exact HW1.out⟩
        case measure => simp [intOf]; omega
      | true =>
      cases h1 : decide (z1 < 0) with
      | false =>
        obtain rfl : tk = false := by rw [HT.out, h1]; rfl
        go_wp2_with (first
          | ((with_reducible refine at_loadP ?_); refine wpList_loadW rfl _ _ rfl _ _ rfl #[.int .i64 p.one, .int .i64 p.cls, .int .i64 p.two, .int .i64 p.id] _ (range_whole HW1.out.own) Try.underlying23 rfl (by kernel_rfl) ?_)
          | ((with_reducible refine at_loadP ?_); refine wpList_loadW rfl _ _ rfl _ _ rfl #[.int .i64 v.r.one, .int .i64 v.r.cls, .int .i64 v.r.two, .int .i64 v.r.id] _ (range_of_row H8.out 0 _ (vhead (atV v k))) Try.underlying23 rfl (by kernel_rfl) ?_)
          | (go_at_call 13; (with_reducible refine (HPc.out _).mono ?_); rintro e w1 ⟨rfl, hb⟩; have HW2 := Lib.hid (HW1.out.below hb); clear hb))
        go_roundw
        case rel => exact ⟨k + 1, by omega, by go_num, by rw [HC'.out]; exact HW2.out⟩
        case measure => simp [intOf]; omega
      | true =>
      cases h2 : decide (z2 < 0) with
      | false =>
        obtain rfl : tk = false := by rw [HT.out, h1, h2]; rfl
        go_wp2_with (first
          | ((with_reducible refine at_loadP ?_); refine wpList_loadW rfl _ _ rfl _ _ rfl #[.int .i64 p.one, .int .i64 p.cls, .int .i64 p.two, .int .i64 p.id] _ (range_whole HW1.out.own) Try.underlying23 rfl (by kernel_rfl) ?_)
          | ((with_reducible refine at_loadP ?_); refine wpList_loadW rfl _ _ rfl _ _ rfl #[.int .i64 v.r.one, .int .i64 v.r.cls, .int .i64 v.r.two, .int .i64 v.r.id] _ (range_of_row H8.out 0 _ (vhead (atV v k))) Try.underlying23 rfl (by kernel_rfl) ?_)
          | ((with_reducible refine at_loadV ?_); refine wpList_loadW rfl _ _ rfl _ _ rfl #[.int .i64 v.r.one, .int .i64 v.r.cls, .int .i64 v.r.two, .int .i64 v.r.id, .int .i64 v.steps, .int .i64 v.from_, .int .i64 v.port, .int .i64 (k : Int)] _ (range_whole H82.out) Try.underlying25 rfl (by kernel_rfl) ?_)
          | ((with_reducible refine at_loadV ?_); refine wpList_loadW rfl _ _ rfl _ _ rfl (VC cc) _ (range_whole HW2.out.chn) Try.underlying25 rfl (by kernel_rfl) ?_)
          | (go_at_call 13; (with_reducible refine (HPc.out _).mono ?_); rintro e w1 ⟨rfl, hb⟩; have HW2 := Lib.hid (HW1.out.below hb); have H82 := Lib.hid ((hb.block _ (lt_of_heap H8.out)).trans H8.out); clear hb)
          | (go_at_call 14; (with_reducible refine (HVc.out _).mono ?_); rintro e w2 ⟨rfl, hb⟩; have HW3 := Lib.hid (HW2.out.below hb); clear hb))
        go_roundw
        case rel => exact ⟨k + 1, by omega, by go_num, by rw [HC'.out]; exact HW3.out⟩
        case measure => simp [intOf]; omega
      | true =>
        obtain rfl : tk = true := by rw [HT.out, h1, h2]; rfl
        go_wp2_with (first
          | ((with_reducible refine at_loadP ?_); refine wpList_loadW rfl _ _ rfl _ _ rfl #[.int .i64 p.one, .int .i64 p.cls, .int .i64 p.two, .int .i64 p.id] _ (range_whole HW1.out.own) Try.underlying23 rfl (by kernel_rfl) ?_)
          | ((with_reducible refine at_loadP ?_); refine wpList_loadW rfl _ _ rfl _ _ rfl #[.int .i64 v.r.one, .int .i64 v.r.cls, .int .i64 v.r.two, .int .i64 v.r.id] _ (range_of_row H8.out 0 _ (vhead (atV v k))) Try.underlying23 rfl (by kernel_rfl) ?_)
          | ((with_reducible refine at_loadV ?_); refine wpList_loadW rfl _ _ rfl _ _ rfl #[.int .i64 v.r.one, .int .i64 v.r.cls, .int .i64 v.r.two, .int .i64 v.r.id, .int .i64 v.steps, .int .i64 v.from_, .int .i64 v.port, .int .i64 (k : Int)] _ (range_whole H83.out) Try.underlying25 rfl (by kernel_rfl) ?_)
          | ((with_reducible refine at_loadV ?_); refine wpList_loadW rfl _ _ rfl _ _ rfl #[.int .i64 v.r.one, .int .i64 v.r.cls, .int .i64 v.r.two, .int .i64 v.r.id, .int .i64 v.steps, .int .i64 v.from_, .int .i64 v.port, .int .i64 (k : Int)] _ (range_whole H82.out) Try.underlying25 rfl (by kernel_rfl) ?_)
          | ((with_reducible refine at_loadV ?_); refine wpList_loadW rfl _ _ rfl _ _ rfl (VC cc) _ (range_whole HW2.out.chn) Try.underlying25 rfl (by kernel_rfl) ?_)
          | ((with_reducible refine at_storeV ?_); refine wpList_store_row rfl _ _ _ rfl _ #[.int .i64 v.r.one, .int .i64 v.r.cls, .int .i64 v.r.two, .int .i64 v.r.id, .int .i64 v.steps, .int .i64 v.from_, .int .i64 v.port, .int .i64 (k : Int)] rfl rfl _ _ HW3.out.chn (by kernel_rfl) rfl (by simp [Value.oneCell']) ?_)
          | (go_at_call 13; (with_reducible refine (HPc.out _).mono ?_); rintro e w1 ⟨rfl, hb⟩; have HW2 := Lib.hid (HW1.out.below hb); have H82 := Lib.hid ((hb.block _ (lt_of_heap H8.out)).trans H8.out); clear hb)
          | (go_at_call 14; (with_reducible refine (HVc.out _).mono ?_); rintro e w2 ⟨rfl, hb⟩; have HW3 := Lib.hid (HW2.out.below hb); have H83 := Lib.hid ((hb.block _ (lt_of_heap H82.out)).trans H82.out); clear hb))
        go_roundw
        case rel => exact ⟨k + 1, by omega, by go_num, by rw [HC'.out]; exact HW3.out.set (atV v k)⟩
        case measure => simp [intOf]; omega
    · obtain rfl : k = n := by omega
      have hd : decide ((k : Int) < (k : Int)) = false := decide_eq_false (by omega)
      have h5 := HS.out.chn
      have h4 := HS.out.res
      go_wp2_with (first
        | ((with_reducible refine at_loadV ?_); refine wpList_loadW rfl _ _ rfl _ _ rfl _ _ (range_whole h5) Try.underlying25 rfl (by kernel_rfl) ?_)
        | ((with_reducible refine at_storeV ?_); refine wpList_store_row rfl _ _ _ rfl _ (VC (chs p F k)) rfl rfl _ _ h4 (by kernel_rfl) rfl (by simp [VC, Value.oneCell']) ?_))
      refine bodyW rfl (w.heap.size + 1) (VC (chs p F k)) _ rfl (setRow_heap _ _ _ _ _ _ h4) Try.underlying25 rfl (by kernel_rfl) rfl ?_
      exact ⟨rfl, bRow HS.out.bel _ (by omega) _⟩

end Go.Proofs.Ytholemjbjmkpkaa

/- Package best: Choose. -/
namespace Go.Proofs.Ytholemjbjmkpkaa
open Go.RowKit Go.Joins

theorem Try.infoI : (Try.prog.info? 3).map (fun i => (i.zero, i.size, i.bytes)) = some (some (.int .i64 0), 1, 8) := by kernel_rfl
theorem info_parts {t : TypeId} {z : Option Value} {s b : Nat} (h : (Try.prog.info? t).map (fun i => (i.zero, i.size, i.bytes)) = some (z, s, b)) : ∃ i, Try.prog.info? t = some i ∧ i.zero = z ∧ i.size = s ∧ i.bytes = b := by
  cases hi : Try.prog.info? t with
  | none => simp [hi] at h
  | some i => simp [hi] at h; exact ⟨i, rfl, h.1, h.2.1, h.2.2⟩
/-- Ints in a row, as cells. -/
def IC (l : List Int) : Array Value := (l.map (Value.int .i64)).toArray
theorem zerosI (n : Nat) : madeCells (Value.int .i64 0).cells n = IC (List.replicate n 0) := by
  apply Array.ext
  · simp [madeCells, IC]
  · intro i h1 h2
    simp [madeCells, IC, Value.cells, Nat.mod_one]
theorem make_ints (n : Nat) (hn : n ≤ 1000000) (w : World) :
    (Instr.makeSlice 40 (.int .i64 (n : Int)) (.int .i64 (n : Int))).run Try.prog w = .ok (.slice (some ⟨w.heap.size, 0, none⟩) n n) (w.alloc (.cells (IC (List.replicate n 0)) 3)) := by
  obtain ⟨i0, hi, hz0, hz1, hz2⟩ := info_parts Try.infoI
  have hr := run_make (P := Try.prog) w 40 3 i0 (.int .i64 0) Try.underlying40 hi hz0 .i64 .i64 n n (by omega) (by omega) (by rw [hz2]; omega) (by omega)
  simp only [Int.toNat_natCast] at hr
  rw [hr, hz1, Nat.mul_one, zerosI]
theorem set_ints {w : World} {g : Nat} {l : List Int} {fr : Nat × Nat} (h : w.heap[g]? = some (.cells (IC l) 3 fr)) (k : Nat) (x : Int) : (w.setCell ⟨g, k, none⟩ (.int .i64 x)).heap[g]? = some (.cells (IC (l.set k x)) 3 fr) := by
  simp [World.setCell, Array.getElem?_modify, h, IC, List.map_set]
/-- What the first k ports are to do; the others are not told yet. -/
def rolesTo (id : Int) (c : Vc) (F : Nat → Hd) (n k : Nat) : List Int := (List.range n).map fun i => if i < k then roleV id c i (F i) else 0
def rolesL (id : Int) (c : Vc) (F : Nat → Hd) (n : Nat) : List Int := (List.range n).map fun (i : Nat) => roleV id c i (F i)
theorem rolesTo_zero (id : Int) (c : Vc) (F : Nat → Hd) (n : Nat) : rolesTo id c F n 0 = List.replicate n 0 := by
  unfold rolesTo
  apply List.ext_getElem
  · simp
  · intro i h1 h2; simp
theorem rolesTo_all (id : Int) (c : Vc) (F : Nat → Hd) (n : Nat) : rolesTo id c F n n = rolesL id c F n := by
  unfold rolesTo rolesL
  apply List.ext_getElem
  · simp
  · intro i h1 h2
    simp at h1
    simp [h1]
theorem rolesTo_succ (id : Int) (c : Vc) (F : Nat → Hd) (n k : Nat) : (rolesTo id c F n k).set k (roleV id c k (F k)) = rolesTo id c F n (k + 1) := by
  unfold rolesTo
  apply List.ext_getElem
  · simp
  · intro i h1 h2
    rw [List.getElem_set]
    by_cases e : k = i
    · subst e; simp
    · rw [if_neg e]
      simp
      by_cases hk : i < k
      · rw [if_pos hk, if_pos (by omega)]
      · rw [if_neg hk, if_neg (by omega)]
theorem rolesTo_len (id : Int) (c : Vc) (F : Nat → Hd) (n k : Nat) : (rolesTo id c F n k).length = n := by unfold rolesTo; simp
theorem rolesL_len (id : Int) (c : Vc) (F : Nat → Hd) (n : Nat) : (rolesL id c F n).length = n := by unfold rolesL; simp
theorem roleV_vals (id : Int) (c : Vc) (k : Int) (h : Hd) : roleV id c k h = 0 ∨ roleV id c k h = 1 ∨ roleV id c k h = 2 ∨ roleV id c k h = 3 := by
  unfold roleV
  split
  · split
    · exact .inr (.inr (.inl rfl))
    · split
      · exact .inr (.inr (.inr rfl))
      · exact .inr (.inl rfl)
  · exact .inl rfl
/-- While the ports are told what to do: b is the chosen one's box. -/
structure ChoW (w : World) (p : Pri) (c : Vc) (b g : Nat) (l : List Int) (wr : World) : Prop where
  bel : Below w.heap.size w wr
  own : wr.heap[w.heap.size]? = some (.cells (PC p) 23 (0, 0))
  res : wr.heap[w.heap.size + 1]? = some (.cells VZ 25 (0, 0))
  chn : wr.heap[b]? = some (.cells (VC c) 25 (0, 0))
  row : wr.heap[g]? = some (.cells (IC l) 3 (0, 0))
  hb : w.heap.size + 1 < b
  hg : b < g
section
variable {w W W' : World} {p : Pri} {c : Vc} {b g : Nat} {l : List Int}
theorem ChoW.below (h : ChoW w p c b g l W) (hb : Below W.heap.size W W') : ChoW w p c b g l W' := ⟨bTr h.bel hb, (hb.block _ (lt_of_heap h.own)).trans h.own, (hb.block _ (lt_of_heap h.res)).trans h.res, (hb.block _ (lt_of_heap h.chn)).trans h.chn, (hb.block _ (lt_of_heap h.row)).trans h.row, h.hb, h.hg⟩
theorem ChoW.set (h : ChoW w p c b g l W) (k : Nat) (x : Int) : ChoW w p c b g (l.set k x) (W.setCell ⟨g, k, none⟩ (.int .i64 x)) := by
  have h1 := h.hb
  have h2 := h.hg
  have key : ∀ i, i ≠ g → (W.setCell ⟨g, k, none⟩ (.int .i64 x)).heap[i]? = W.heap[i]? := fun i hi => heap_setCell_other W ⟨g, k, none⟩ i _ hi
  exact ⟨bSet h.bel _ (by show w.heap.size ≤ g; omega) _, (key _ (by omega)).trans h.own, (key _ (by omega)).trans h.res, (key _ (by omega)).trans h.chn, set_ints h.row k x, h.hb, h.hg⟩
theorem ChoW.start {w w1 : World} {p : Pri} (hb : Below ((w.alloc (.cells (PC p) 23)).alloc (.cells VZ 25)).heap.size ((w.alloc (.cells (PC p) 23)).alloc (.cells VZ 25)) w1) (c : Vc) (n : Nat) :
    ChoW w p c w1.heap.size (w1.heap.size + 1) (List.replicate n 0) ((w1.alloc (.cells (VC c) 25)).alloc (.cells (IC (List.replicate n 0)) 3)) := by
  have hs := hb.size
  simp at hs
  have h1 := bAl (bRef (w.alloc (.cells (PC p) 23))) (.cells VZ 25)
  have h2 := bAl (bRef w1) (.cells (VC c) 25)
  have h3 := bAl (bRef (w1.alloc (.cells (VC c) 25))) (.cells (IC (List.replicate n 0)) 3)
  refine ⟨bAl (bAl (bTr (bAl (bAl (bRef w) _) _) hb) _) _, ?_, ?_, ?_, ?_, by omega, by omega⟩
  · exact (h3.block _ (by simp; omega)).trans ((h2.block _ (by omega)).trans ((hb.block _ (by simp; omega)).trans ((h1.block _ (by simp)).trans (heap_alloc_new w _))))
  · exact (h3.block _ (by simp; omega)).trans ((h2.block _ (by omega)).trans ((hb.block _ (by simp)).trans (by have := heap_alloc_new (w.alloc (.cells (PC p) 23)) (.cells VZ 25); simpa using this)))
  · exact (h3.block _ (by simp)).trans (heap_alloc_new w1 _)
  · have := heap_alloc_new (w1.alloc (.cells (VC c) 25)) (.cells (IC (List.replicate n 0)) 3)
    simpa using this
end
def ChoRel (w : World) (p : Pri) (c : Vc) (F : Nat → Hd) (n b g : Nat) (iv : Value) (wr : World) : Prop := ∃ k : Nat, k ≤ n ∧ iv = .int .i64 (k : Int) ∧ ChoW w p c b g (rolesTo p.id c F n k) wr
/-- What Choose leaves. -/
def Chosen (w : World) (c : Vc) (l : List Int) (e : Ending) (w' : World) : Prop := ∃ g, e = .returned (.tuple #[.agg (VC c), .slice (some ⟨g, 0, none⟩) l.length l.length]) ∧ w.heap.size ≤ g ∧ w'.heap[g]? = some (.cells (IC l) 3 (0, 0)) ∧ Below w.heap.size w w'
set_option maxRecDepth 20000 in
set_option maxHeartbeats 2000000 in
theorem Choose_any (p : Pri) {w : World} {v : Value} {n : Nat} {F : Nat → Hd} (hA : HArg w v n F) (hn : n ≤ 1000000) : Calls Try.prog 18 #[.agg (PC p), v] w (Chosen w (chs p F n) (rolesL p.id (chs p F n) F n)) := by
  obtain ⟨a, c, rfl⟩ := hA.slice
  have HA := Lib.hid hA
  have HN := Lib.hid hn
  have hmk := make_ints n hn
  have HCh := Lib.hid (fun W (hb : Below w.heap.size w W) => choose_any p (hA.below hb) (by omega))
  unfold PC at HCh ⊢
  clear hA
  go_enter Try.func18, Try.ntmps18
  go_wp2_with (first
    | (go_at_call 33; (with_reducible refine (HCh.out _ (bAl (bAl (bRef w) _) _)).mono ?_); rintro e w1 ⟨rfl, hb⟩; have HB := Lib.hid hb; clear hb)
    | ((with_reducible refine at_storeV ?_); refine wpList_storeNW rfl _ _ _ rfl w1.heap.size rfl (VC (chs p F n)) _ _ rfl rfl (by simp [VC, Value.oneCell']) (by kernel_rfl) rfl ?_))
  have HS := Lib.hid (ChoW.start HB.out (chs p F n) n)
  clear hmk
  obtain ⟨b, hbb⟩ : ∃ b, b = w1.heap.size := ⟨_, rfl⟩
  have hsz : (w1.alloc (.cells (VC (chs p F n)) 25)).heap.size = b + 1 := by rw [hbb]; simp
  rw [← hbb] at HS ⊢
  generalize (w1.alloc (.cells (VC (chs p F n)) 25)).alloc (.cells (IC (List.replicate n 0)) 3) = W0 at *
  clear hbb hsz
  generalize chs p F n = cc at *
  go_loopw [18] (fun iv wr => ChoRel w p cc F n b (b + 1) iv wr) (fun iv _ => n - (intOf iv).toNat)
  case atStart => exact ⟨0, by omega, rfl, by rw [rolesTo_zero]; exact HS.out⟩
  case round =>
    clear HS HB HCh
    obtain ⟨k, hk, rfl, hs⟩ := hrel
    have HS := Lib.hid hs
    clear hs
    rcases Nat.lt_or_ge k n with g | g
    · have hd : decide ((k : Int) < (n : Int)) = true := decide_eq_true (by omega)
      obtain ⟨ba, o, rfl, hlt, hall⟩ := HA.out.at (by omega)
      have HR := Lib.hid (fun W (hb : Below w.heap.size w W) => range_below (hall k g) hb hlt)
      clear hall
      have HL := Lib.hid (rolesTo_succ p.id cc F n k)
      have HLn := Lib.hid (rolesTo_len p.id cc F n k)
      have HRo := Lib.hid (fun W => role_any p.id cc k (F k) W)
      generalize roleV p.id cc k (F k) = z at *
      generalize rolesTo p.id cc F n k = l at *
      generalize F k = h at *
      obtain ⟨up, ok, v⟩ := h
      rw [show HC ⟨up, ok, v⟩ = #[.bool up, .bool ok, .int .i64 v.r.one, .int .i64 v.r.cls, .int .i64 v.r.two, .int .i64 v.r.id, .int .i64 v.steps, .int .i64 v.from_, .int .i64 v.port, .int .i64 v.at_] from rfl] at HR HRo
      have cid : wr.cell? ⟨w.heap.size, 3, none⟩ = some (.int .i64 p.id) := cell_of_row _ _ 3 _ _ _ HS.out.own
      have hlo : w.heap.size < wr.heap.size := lt_of_heap HS.out.own
      have hbl : b < wr.heap.size := lt_of_heap HS.out.chn
      have ck : ∃ x, wr.cell? ⟨b + 1, k, none⟩ = some x := ⟨_, (cell_of_row _ _ k _ _ _ HS.out.row).trans (Array.getElem?_eq_getElem (show k < (IC l).size by simpa [IC, HLn.out] using g))⟩
      obtain ⟨x, ck⟩ := ck
      have fk : wr.frozen? ⟨b + 1, k, none⟩ = false := frozen_of_row _ _ _ _ _ HS.out.row
      have hgl : b + 1 < wr.heap.size := lt_of_heap HS.out.row
      go_upto_region 6 with ((with_reducible refine at_loadH ?_); refine wpList_loadW rfl _ _ rfl _ _ rfl #[.bool up, .bool ok, .int .i64 v.r.one, .int .i64 v.r.cls, .int .i64 v.r.two, .int .i64 v.r.id, .int .i64 v.steps, .int .i64 v.from_, .int .i64 v.port, .int .i64 v.at_] _ (HR.out _ HS.out.bel) Try.underlying37 rfl (by kernel_rfl) ?_)
      go_wp2_with (first
        | ((with_reducible refine at_loadV ?_); refine wpList_loadW rfl _ _ rfl _ _ rfl (VC cc) _ (range_whole ((bAl (bRef wr) _).block _ hbl |>.trans HS.out.chn)) Try.underlying25 rfl (by kernel_rfl) ?_)
        | (go_at_call 34; (with_reducible refine (HRo.out _).mono ?_); rintro e w2 ⟨rfl, hb⟩; have HB2 := Lib.hid (bTr (bAl (bRef wr) (.cells #[.bool up, .bool ok, .int .i64 v.r.one, .int .i64 v.r.cls, .int .i64 v.r.two, .int .i64 v.r.id, .int .i64 v.steps, .int .i64 v.from_, .int .i64 v.port, .int .i64 v.at_] 37)) hb); have ck2 := (hb.cell (p := ⟨b + 1, k, none⟩) (by simp; omega)).trans (((bAl (bRef wr) _).cell (p := ⟨b + 1, k, none⟩) hgl).trans ck); have fk2 := (hb.frozen (p := ⟨b + 1, k, none⟩) (by simp; omega)).trans (((bAl (bRef wr) _).frozen (p := ⟨b + 1, k, none⟩) hgl).trans fk); clear hb))
      go_roundw
      case rel => exact ⟨k + 1, by omega, by go_num, by rw [← HL.out]; exact (HS.out.below HB2.out).set k z⟩
      case measure => simp [intOf]; omega
    · obtain rfl : k = n := by omega
      have hd : decide ((k : Int) < (k : Int)) = false := decide_eq_false (by omega)
      have h5 := HS.out.chn
      have h4 := HS.out.res
      have h6 := HS.out.row
      have hb1 := HS.out.hb
      go_wp2_with (first
        | ((with_reducible refine at_loadV ?_); refine wpList_loadW rfl _ _ rfl _ _ rfl (VC cc) _ (range_whole h5) Try.underlying25 rfl (by kernel_rfl) ?_)
        | ((with_reducible refine at_storeV ?_); refine wpList_store_row rfl _ _ _ rfl _ (VC cc) rfl rfl _ _ h4 (by kernel_rfl) rfl (by simp [VC, Value.oneCell']) ?_))
      refine bodyW2 rfl (w.heap.size + 1) (VC cc) (.slice (some ⟨b + 1, 0, none⟩) k k) _ rfl rfl (setRow_heap _ _ _ _ _ _ h4) Try.underlying25 rfl (by kernel_rfl) rfl ?_
      exact ⟨b + 1, by rw [rolesL_len], by omega, by rw [← rolesTo_all]; exact (setRow_other _ _ _ _ (by omega)).trans h6, bRow HS.out.bel _ (by omega) _⟩

end Go.Proofs.Ytholemjbjmkpkaa

/- The laws' head: the document's example. -/
namespace Go.Proofs.Ytholemjbjmkpkaa
open Go.RowKit Go.Joins

def exF (k : Nat) : Hd := if k = 0 then ⟨true, true, ⟨⟨3, 0, 0, 9⟩, 2, 9, 0, 0⟩⟩ else ⟨true, true, ⟨⟨3, 0, 0, 9⟩, 4, 8, 0, 0⟩⟩
def exCells : Array Value := #[.bool true, .bool true, .int .i64 3, .int .i64 0, .int .i64 0, .int .i64 9, .int .i64 2, .int .i64 9, .int .i64 0, .int .i64 0, .bool true, .bool true, .int .i64 3, .int .i64 0, .int .i64 0, .int .i64 9, .int .i64 4, .int .i64 8, .int .i64 0, .int .i64 0]
theorem ex_arg {W : World} {g : Nat} {t : TypeId} (h : W.heap[g]? = some (.cells exCells t (0, 0))) : HArg W (.slice (some ⟨g, 0, none⟩) 2 2) 2 exF := by
  refine .inr ⟨by omega, g, 0, 2, rfl, lt_of_heap h, fun k hk => ?_⟩
  rcases (show k = 0 ∨ k = 1 by omega) with rfl | rfl
  · refine range_of_row h _ _ (fun j v hj => ?_)
    have hl : j < 10 := by have := (List.getElem?_eq_some_iff.1 hj).1; simpa [HC] using this
    rcases (show j = 0 ∨ j = 1 ∨ j = 2 ∨ j = 3 ∨ j = 4 ∨ j = 5 ∨ j = 6 ∨ j = 7 ∨ j = 8 ∨ j = 9 by omega) with rfl | rfl | rfl | rfl | rfl | rfl | rfl | rfl | rfl | rfl <;> exact hj
  · refine range_of_row h _ _ (fun j v hj => ?_)
    have hl : j < 10 := by have := (List.getElem?_eq_some_iff.1 hj).1; simpa [HC] using this
    rcases (show j = 0 ∨ j = 1 ∨ j = 2 ∨ j = 3 ∨ j = 4 ∨ j = 5 ∨ j = 6 ∨ j = 7 ∨ j = 8 ∨ j = 9 by omega) with rfl | rfl | rfl | rfl | rfl | rfl | rfl | rfl | rfl | rfl <;> exact hj
theorem ex_chs : chs ⟨5, 0, 0, 4⟩ exF 2 = ⟨⟨3, 0, 0, 9⟩, 2, 9, 0, 0⟩ := by kernel_rfl
theorem ex_roles : rolesL 4 (chs ⟨5, 0, 0, 4⟩ exF 2) exF 2 = [2, 1] := by kernel_rfl
set_option maxRecDepth 20000 in
set_option maxHeartbeats 2000000 in
theorem head_ret : Ret 17 #[] (.bool true) := fun w => by
  have HCh := Lib.hid (fun (W : World) (g : Nat) (h : g = W.heap.size) => Choose_any ⟨5, 0, 0, 4⟩ (w := W.alloc (.cells exCells 37)) (ex_arg (g := g) (t := 37) (by subst h; exact heap_alloc_new _ _)) (by decide))
  rw [ex_roles, ex_chs] at HCh
  unfold Chosen VC PC exCells IC at HCh
  simp only [List.map_cons, List.map_nil, List.length_cons, List.length_nil] at HCh
  have heq := fun W => run_eqP 3 0 0 9 3 0 0 9 W true (by decide)
  go_enter Try.func17, Try.ntmps17
  go_wp2_with (go_at_call 18; (with_reducible refine (HCh.out _ _ (by simp)).mono ?_); (rintro e w1 ⟨g, rfl, hg, hrow, hb⟩; have hs2 : w.heap.size + 2 ≤ w1.heap.size := (by have := hb.size; simp at this; omega); have hlp : w.heap.size < w1.heap.size := (by omega); have hbx := (hb.block w.heap.size (by simp; omega)).trans (((bAl (bRef (w.alloc _)) _).block _ (by simp)).trans (heap_alloc_new w _)); have p0 := cell_of_row _ _ 0 _ _ _ hbx; have p1 := cell_of_row _ _ 1 _ _ _ hbx; have p2 := cell_of_row _ _ 2 _ _ _ hbx; have p3 := cell_of_row _ _ 3 _ _ _ hbx; clear hbx; have k0 : w1.cell? ⟨g, 0, none⟩ = some (.int .i64 2) := cell_of_row _ _ 0 _ _ _ hrow; have k1 : w1.cell? ⟨g, 1, none⟩ = some (.int .i64 1) := cell_of_row _ _ 1 _ _ _ hrow; have hgl : g < w1.heap.size := lt_of_heap hrow; have HB := Lib.hid hb; clear hb))
  go_ret
  exact ⟨rfl, bAl (bTr (bAl (bAl (bRef w) _) _) HB.out) _⟩

end Go.Proofs.Ytholemjbjmkpkaa
