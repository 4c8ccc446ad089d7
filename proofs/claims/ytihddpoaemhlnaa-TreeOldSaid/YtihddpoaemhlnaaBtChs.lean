/- Package best: choose. -/
import Derived.Test.YtihddpoaemhlnaaBtRow
namespace Go.Proofs.Ytihddpoaemhlnaa
open Go.RowKit Go.Joins

/-- What ports have heard, that is read. -/
def HArg (w : World) (v : Value) (n : Nat) (F : Nat → Hd) : Prop :=
  (n = 0 ∧ ∃ a c, v = .slice a 0 c) ∨ (0 < n ∧ ∃ b o c, v = .slice (some ⟨b, o, none⟩) n c ∧ b < w.heap.size ∧ ∀ k, k < n → w.rangeAt b (o + k * 10) (HC (F k)).toList)
theorem range_below {w w' : World} {b o : Nat} {l : List Value} (h : w.rangeAt b o l) (hb : Below w.heap.size w w') (hl : b < w.heap.size) : w'.rangeAt b o l := fun j v hj => (hb.cell (p := ⟨b, o + j, none⟩) hl).trans (h j v hj)
theorem HArg.below {w w' : World} {v : Value} {n : Nat} {F : Nat → Hd} (h : HArg w v n F) (hb : Below w.heap.size w w') : HArg w' v n F := by
  rcases h with h | ⟨h0, b, o, c, e, h1, h2⟩
  · exact .inl h
  · exact .inr ⟨h0, b, o, c, e, Nat.lt_of_lt_of_le h1 hb.size, fun k hk => range_below (h2 k hk) hb h1⟩
theorem HArg.slice {w : World} {v : Value} {n : Nat} {F : Nat → Hd} (h : HArg w v n F) : ∃ p c, v = .slice p n c := by
  rcases h with ⟨rfl, p, c, rfl⟩ | ⟨_, b, o, c, rfl, _⟩
  · exact ⟨p, c, rfl⟩
  · exact ⟨_, c, rfl⟩
theorem HArg.at {w : World} {p : Option Addr} {n c : Nat} {F : Nat → Hd} (h : HArg w (.slice p n c) n F) (h0 : 0 < n) : ∃ b o, p = some ⟨b, o, none⟩ ∧ b < w.heap.size ∧ ∀ k, k < n → w.rangeAt b (o + k * 10) (HC (F k)).toList := by
  rcases h with ⟨e, _⟩ | ⟨_, b, o, c', e, h1, h2⟩
  · omega
  · injection e with e1 e2 e3
    exact ⟨b, o, e1, h1, h2⟩

def own0 (p : Pri) : Vc := ⟨p, 0, p.id, 0, -1⟩
def atV (v : Vc) (k : Int) : Vc := { v with at_ := k }
def takeB (p : Pri) (c : Vc) (k : Nat) (h : Hd) : Bool := ((h.up && h.ok) && decide (h.v.r.cmp p < 0)) && decide ((atV h.v k).cmp c < 0)
def chs (p : Pri) (F : Nat → Hd) : Nat → Vc
  | 0 => own0 p
  | k + 1 => if takeB p (chs p F k) k (F k) then atV (F k).v k else chs p F k
theorem chs_succ (p : Pri) (F : Nat → Hd) (k : Nat) : chs p F (k + 1) = if takeB p (chs p F k) k (F k) then atV (F k).v k else chs p F k := rfl
def VZ : Array Value := #[.int .i64 0, .int .i64 0, .int .i64 0, .int .i64 0, .int .i64 0, .int .i64 0, .int .i64 0, .int .i64 0]
/-- While the ports are gone through. -/
structure ChsW (w : World) (p : Pri) (c : Vc) (wr : World) : Prop where
  bel : Below w.heap.size w wr
  own : wr.heap[w.heap.size]? = some (.cells (PC p) 23 (0, 0))
  res : wr.heap[w.heap.size + 1]? = some (.cells VZ 25 (0, 0))
  chn : wr.heap[w.heap.size + 2]? = some (.cells (VC c) 25 (0, 0))
section
variable {w W W' : World} {p : Pri} {c : Vc}
theorem ChsW.below (h : ChsW w p c W) (hb : Below W.heap.size W W') : ChsW w p c W' := ⟨bTr h.bel hb, (hb.block _ (lt_of_heap h.own)).trans h.own, (hb.block _ (lt_of_heap h.res)).trans h.res, (hb.block _ (lt_of_heap h.chn)).trans h.chn⟩
theorem ChsW.set (h : ChsW w p c W) (c' : Vc) : ChsW w p c' (W.setRow (w.heap.size + 2) (VC c')) :=
  ⟨bRow h.bel _ (by omega) _, (setRow_other W _ _ _ (by omega)).trans h.own, (setRow_other W _ _ _ (by omega)).trans h.res, setRow_heap _ _ _ _ _ _ h.chn⟩
theorem ChsW.start (w : World) (p : Pri) (c : Vc) : ChsW w p c (((w.alloc (.cells (PC p) 23)).alloc (.cells VZ 25)).alloc (.cells (VC c) 25)) := by
  have h1 := bAl (bRef (w.alloc (.cells (PC p) 23))) (.cells VZ 25)
  have h2 := bAl (bRef ((w.alloc (.cells (PC p) 23)).alloc (.cells VZ 25))) (.cells (VC c) 25)
  refine ⟨bAl (bAl (bAl (bRef w) _) _) _, ?_, ?_, ?_⟩
  · exact (h2.block _ (by simp; omega)).trans ((h1.block _ (by simp)).trans (heap_alloc_new w _))
  · exact (h2.block _ (by simp)).trans (by have := heap_alloc_new (w.alloc (.cells (PC p) 23)) (.cells VZ 25); simpa using this)
  · have := heap_alloc_new ((w.alloc (.cells (PC p) 23)).alloc (.cells VZ 25)) (.cells (VC c) 25)
    simpa using this
end
theorem range_whole {W : World} {b : Nat} {cs : Array Value} {t : TypeId} {fr : Nat × Nat} (hg : W.heap[b]? = some (.cells cs t fr)) : W.rangeAt b 0 cs.toList := range_of_row hg 0 _ (fun j v h => by rw [Nat.zero_add]; simpa using h)
def ChsRel (w : World) (p : Pri) (F : Nat → Hd) (n : Nat) (iv : Value) (wr : World) : Prop := ∃ k : Nat, k ≤ n ∧ iv = .int .i64 (k : Int) ∧ ChsW w p (chs p F k) wr
set_option maxRecDepth 20000 in
set_option maxHeartbeats 2000000 in
theorem choose_any (p : Pri) {w : World} {v : Value} {n : Nat} {F : Nat → Hd} (hA : HArg w v n F) (hn : n ≤ 140737488355328) : Calls Try.prog 33 #[.agg (PC p), v] w fun e w' => e = .returned (.agg (VC (chs p F n))) ∧ Below w.heap.size w w' := by
  obtain ⟨a, c, rfl⟩ := hA.slice
  have HA := Lib.hid hA
  have HS := Lib.hid (ChsW.start w p (own0 p))
  have HN := Lib.hid hn
  clear hA
  unfold PC own0 at HS
  rw [show VC (⟨p, 0, p.id, 0, -1⟩ : Vc) = #[.int .i64 p.one, .int .i64 p.cls, .int .i64 p.two, .int .i64 p.id, .int .i64 0, .int .i64 p.id, .int .i64 0, .int .i64 (-1)] from rfl, show VZ = #[.int .i64 0, .int .i64 0, .int .i64 0, .int .i64 0, .int .i64 0, .int .i64 0, .int .i64 0, .int .i64 0] from rfl] at HS
  unfold PC
  go_enter Try.func33, Try.ntmps33
  go_wp2_with fail
  generalize ((w.alloc (.cells #[.int .i64 p.one, .int .i64 p.cls, .int .i64 p.two, .int .i64 p.id] 23)).alloc (.cells #[.int .i64 0, .int .i64 0, .int .i64 0, .int .i64 0, .int .i64 0, .int .i64 0, .int .i64 0, .int .i64 0] 25)).alloc (.cells #[.int .i64 p.one, .int .i64 p.cls, .int .i64 p.two, .int .i64 p.id, .int .i64 0, .int .i64 p.id, .int .i64 0, .int .i64 (-1)] 25) = W0 at *
  go_loopw [15] (fun iv wr => ChsRel w p F n iv wr) (fun iv _ => n - (intOf iv).toNat)
  case atStart => exact ⟨0, by omega, rfl, HS.out⟩
  case round =>
    clear HS
    obtain ⟨k, hk, rfl, hs⟩ := hrel
    have HS := Lib.hid hs
    clear hs
    rcases Nat.lt_or_ge k n with g | g
    · have hd : decide ((k : Int) < (n : Int)) = true := decide_eq_true (by omega)
      obtain ⟨b, o, rfl, hlt, hall⟩ := HA.out.at (by omega)
      have HR := Lib.hid (fun W (hb : Below w.heap.size w W) => range_below (hall k g) hb hlt)
      clear hall
      have HC' : Hid (chs p F (k + 1) = if takeB p (chs p F k) k (F k) then atV (F k).v k else chs p F k) := Lib.hid (chs_succ p F k)
      generalize chs p F k = cc at *
      generalize F k = h at *
      obtain ⟨up, ok, v⟩ := h
      have HW1 := Lib.hid (HS.out.below (bAl (bAl (bRef wr) (.cells (HC ⟨up, ok, v⟩) 37)) (.cells (VC (atV v k)) 25)))
      have H7 := Lib.hid (show ((wr.alloc (.cells (HC ⟨up, ok, v⟩) 37)).alloc (.cells (VC (atV v k)) 25)).heap[wr.heap.size]? = some (.cells (HC ⟨up, ok, v⟩) 37 (0, 0)) from ((bAl (bRef _) _).block _ (by simp)).trans (heap_alloc_new wr _))
      have H8 := Lib.hid (show ((wr.alloc (.cells (HC ⟨up, ok, v⟩) 37)).alloc (.cells (VC (atV v k)) 25)).heap[wr.heap.size + 1]? = some (.cells (VC (atV v k)) 25 (0, 0)) from by have := heap_alloc_new (wr.alloc (.cells (HC ⟨up, ok, v⟩) 37)) (.cells (VC (atV v k)) 25); simpa using this)
      rw [show HC ⟨up, ok, v⟩ = #[.bool up, .bool ok, .int .i64 v.r.one, .int .i64 v.r.cls, .int .i64 v.r.two, .int .i64 v.r.id, .int .i64 v.steps, .int .i64 v.from_, .int .i64 v.port, .int .i64 v.at_] from rfl, show VC (atV v k) = #[.int .i64 v.r.one, .int .i64 v.r.cls, .int .i64 v.r.two, .int .i64 v.r.id, .int .i64 v.steps, .int .i64 v.from_, .int .i64 v.port, .int .i64 (k : Int)] from rfl] at HW1 H7 H8
      rw [show HC ⟨up, ok, v⟩ = #[.bool up, .bool ok, .int .i64 v.r.one, .int .i64 v.r.cls, .int .i64 v.r.two, .int .i64 v.r.id, .int .i64 v.steps, .int .i64 v.from_, .int .i64 v.port, .int .i64 v.at_] from rfl] at HR
      have hsz := HS.out.bel.size
      go_upto_region 7 with ((with_reducible refine at_loadH ?_); refine wpList_loadW rfl _ _ rfl _ _ rfl #[.bool up, .bool ok, .int .i64 v.r.one, .int .i64 v.r.cls, .int .i64 v.r.two, .int .i64 v.r.id, .int .i64 v.steps, .int .i64 v.from_, .int .i64 v.port, .int .i64 v.at_] _ (HR.out _ HS.out.bel) Try.underlying37 rfl (by kernel_rfl) ?_)
      generalize (wr.alloc (.cells #[.bool up, .bool ok, .int .i64 v.r.one, .int .i64 v.r.cls, .int .i64 v.r.two, .int .i64 v.r.id, .int .i64 v.steps, .int .i64 v.from_, .int .i64 v.port, .int .i64 v.at_] 37)).alloc (.cells #[.int .i64 v.r.one, .int .i64 v.r.cls, .int .i64 v.r.two, .int .i64 v.r.id, .int .i64 v.steps, .int .i64 v.from_, .int .i64 v.port, .int .i64 (k : Int)] 25) = W1 at *
      have c7u : W1.cell? ⟨wr.heap.size, 0, none⟩ = some (.bool up) := cell_of_row _ _ 0 _ _ _ H7.out
      have c7o : W1.cell? ⟨wr.heap.size, 1, none⟩ = some (.bool ok) := cell_of_row _ _ 1 _ _ _ H7.out
      have HPc := Lib.hid (fun W => pcmp_any v.r p W)
      have HVc := Lib.hid (fun W => vcmp_any (atV v k) cc W)
      unfold PC at HPc
      rw [show VC (atV v k) = #[.int .i64 v.r.one, .int .i64 v.r.cls, .int .i64 v.r.two, .int .i64 v.r.id, .int .i64 v.steps, .int .i64 v.from_, .int .i64 v.port, .int .i64 (k : Int)] from rfl] at HVc
      have HT : Hid (takeB p cc k ⟨up, ok, v⟩ = (((up && ok) && decide (v.r.cmp p < 0)) && decide ((atV v k).cmp cc < 0))) := Lib.hid rfl
      generalize takeB p cc k ⟨up, ok, v⟩ = tk at *
      generalize v.r.cmp p = z1 at *
      generalize (atV v k).cmp cc = z2 at *
      clear hsz
      cases up with
      | false =>
        obtain rfl : tk = false := HT.out
        go_wp2_with fail
        go_roundw
        case rel => exact ⟨k + 1, by omega, by go_num, by rw [HC'.out]; exact HW1.out⟩
        case measure => simp [intOf]; omega
      | true =>
      cases ok with
      | false =>
        obtain rfl : tk = false := HT.out
        go_wp2_with fail
        go_roundw
        case rel => exact ⟨k + 1, by omega, by go_num, by rw [HC'.out]; exact HW1.out⟩
        case measure => simp [intOf]; omega
      | true =>
      cases h1 : decide (z1 < 0) with
      | false =>
        obtain rfl : tk = false := by rw [HT.out, h1]; rfl
        go_wp2_with (first
          | ((with_reducible refine at_loadP ?_); refine wpList_loadW rfl _ _ rfl _ _ rfl #[.int .i64 p.one, .int .i64 p.cls, .int .i64 p.two, .int .i64 p.id] _ (range_whole HW1.out.own) Try.underlying23 rfl (by kernel_rfl) ?_)
          | ((with_reducible refine at_loadP ?_); refine wpList_loadW rfl _ _ rfl _ _ rfl #[.int .i64 v.r.one, .int .i64 v.r.cls, .int .i64 v.r.two, .int .i64 v.r.id] _ (range_of_row H8.out 0 _ (vhead (atV v k))) Try.underlying23 rfl (by kernel_rfl) ?_)
          | (go_at_call 13; (with_reducible refine (HPc.out _).mono ?_); rintro e w1 ⟨rfl, hb⟩; have HW2 := Lib.hid (HW1.out.below hb); clear hb))
        go_roundw
        case rel => exact ⟨k + 1, by omega, by go_num, by rw [HC'.out]; exact HW2.out⟩
        case measure => simp [intOf]; omega
      | true =>
      cases h2 : decide (z2 < 0) with
      | false =>
        obtain rfl : tk = false := by rw [HT.out, h1, h2]; rfl
        go_wp2_with (first
          | ((with_reducible refine at_loadP ?_); refine wpList_loadW rfl _ _ rfl _ _ rfl #[.int .i64 p.one, .int .i64 p.cls, .int .i64 p.two, .int .i64 p.id] _ (range_whole HW1.out.own) Try.underlying23 rfl (by kernel_rfl) ?_)
          | ((with_reducible refine at_loadP ?_); refine wpList_loadW rfl _ _ rfl _ _ rfl #[.int .i64 v.r.one, .int .i64 v.r.cls, .int .i64 v.r.two, .int .i64 v.r.id] _ (range_of_row H8.out 0 _ (vhead (atV v k))) Try.underlying23 rfl (by kernel_rfl) ?_)
          | ((with_reducible refine at_loadV ?_); refine wpList_loadW rfl _ _ rfl _ _ rfl #[.int .i64 v.r.one, .int .i64 v.r.cls, .int .i64 v.r.two, .int .i64 v.r.id, .int .i64 v.steps, .int .i64 v.from_, .int .i64 v.port, .int .i64 (k : Int)] _ (range_whole H82.out) Try.underlying25 rfl (by kernel_rfl) ?_)
          | ((with_reducible refine at_loadV ?_); refine wpList_loadW rfl _ _ rfl _ _ rfl (VC cc) _ (range_whole HW2.out.chn) Try.underlying25 rfl (by kernel_rfl) ?_)
          | (go_at_call 13; (with_reducible refine (HPc.out _).mono ?_); rintro e w1 ⟨rfl, hb⟩; have HW2 := Lib.hid (HW1.out.below hb); have H82 := Lib.hid ((hb.block _ (lt_of_heap H8.out)).trans H8.out); clear hb)
          | (go_at_call 14; (with_reducible refine (HVc.out _).mono ?_); rintro e w2 ⟨rfl, hb⟩; have HW3 := Lib.hid (HW2.out.below hb); clear hb))
        go_roundw
        case rel => exact ⟨k + 1, by omega, by go_num, by rw [HC'.out]; exact HW3.out⟩
        case measure => simp [intOf]; omega
      | true =>
        obtain rfl : tk = true := by rw [HT.out, h1, h2]; rfl
        go_wp2_with (first
          | ((with_reducible refine at_loadP ?_); refine wpList_loadW rfl _ _ rfl _ _ rfl #[.int .i64 p.one, .int .i64 p.cls, .int .i64 p.two, .int .i64 p.id] _ (range_whole HW1.out.own) Try.underlying23 rfl (by kernel_rfl) ?_)
          | ((with_reducible refine at_loadP ?_); refine wpList_loadW rfl _ _ rfl _ _ rfl #[.int .i64 v.r.one, .int .i64 v.r.cls, .int .i64 v.r.two, .int .i64 v.r.id] _ (range_of_row H8.out 0 _ (vhead (atV v k))) Try.underlying23 rfl (by kernel_rfl) ?_)
          | ((with_reducible refine at_loadV ?_); refine wpList_loadW rfl _ _ rfl _ _ rfl #[.int .i64 v.r.one, .int .i64 v.r.cls, .int .i64 v.r.two, .int .i64 v.r.id, .int .i64 v.steps, .int .i64 v.from_, .int .i64 v.port, .int .i64 (k : Int)] _ (range_whole H83.out) Try.underlying25 rfl (by kernel_rfl) ?_)
          | ((with_reducible refine at_loadV ?_); refine wpList_loadW rfl _ _ rfl _ _ rfl #[.int .i64 v.r.one, .int .i64 v.r.cls, .int .i64 v.r.two, .int .i64 v.r.id, .int .i64 v.steps, .int .i64 v.from_, .int .i64 v.port, .int .i64 (k : Int)] _ (range_whole H82.out) Try.underlying25 rfl (by kernel_rfl) ?_)
          | ((with_reducible refine at_loadV ?_); refine wpList_loadW rfl _ _ rfl _ _ rfl (VC cc) _ (range_whole HW2.out.chn) Try.underlying25 rfl (by kernel_rfl) ?_)
          | ((with_reducible refine at_storeV ?_); refine wpList_store_row rfl _ _ _ rfl _ #[.int .i64 v.r.one, .int .i64 v.r.cls, .int .i64 v.r.two, .int .i64 v.r.id, .int .i64 v.steps, .int .i64 v.from_, .int .i64 v.port, .int .i64 (k : Int)] rfl rfl _ _ HW3.out.chn (by kernel_rfl) rfl (by simp [Value.oneCell']) ?_)
          | (go_at_call 13; (with_reducible refine (HPc.out _).mono ?_); rintro e w1 ⟨rfl, hb⟩; have HW2 := Lib.hid (HW1.out.below hb); have H82 := Lib.hid ((hb.block _ (lt_of_heap H8.out)).trans H8.out); clear hb)
          | (go_at_call 14; (with_reducible refine (HVc.out _).mono ?_); rintro e w2 ⟨rfl, hb⟩; have HW3 := Lib.hid (HW2.out.below hb); have H83 := Lib.hid ((hb.block _ (lt_of_heap H82.out)).trans H82.out); clear hb))
        go_roundw
        case rel => exact ⟨k + 1, by omega, by go_num, by rw [HC'.out]; exact HW3.out.set (atV v k)⟩
        case measure => simp [intOf]; omega
    · obtain rfl : k = n := by omega
      have hd : decide ((k : Int) < (k : Int)) = false := decide_eq_false (by omega)
      have h5 := HS.out.chn
      have h4 := HS.out.res
      go_wp2_with (first
        | ((with_reducible refine at_loadV ?_); refine wpList_loadW rfl _ _ rfl _ _ rfl _ _ (range_whole h5) Try.underlying25 rfl (by kernel_rfl) ?_)
        | ((with_reducible refine at_storeV ?_); refine wpList_store_row rfl _ _ _ rfl _ (VC (chs p F k)) rfl rfl _ _ h4 (by kernel_rfl) rfl (by simp [VC, Value.oneCell']) ?_))
      refine bodyW rfl (w.heap.size + 1) (VC (chs p F k)) _ rfl (setRow_heap _ _ _ _ _ _ h4) Try.underlying25 rfl (by kernel_rfl) rfl ?_
      exact ⟨rfl, bRow HS.out.bel _ (by omega) _⟩

end Go.Proofs.Ytihddpoaemhlnaa
