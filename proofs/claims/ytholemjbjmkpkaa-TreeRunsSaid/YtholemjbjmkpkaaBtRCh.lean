/- The reference of layer 19: Choose says what the program's does. -/
import Derived.Test.YtholemjbjmkpkaaBtRef
namespace Go.Proofs.Ytholemjbjmkpkaa
open Go.RowKit Go.Joins Go.Deep

def C1 (x : Int) : Array Value := #[.int .i64 x]
theorem C1_size (x : Int) : (C1 x).size = 1 := rfl
theorem C1_one (x : Int) : (C1 x).all (·.oneCell') = true := by simp [C1, Value.oneCell']
def rootV (p : Pri) : Vc := ⟨p, 0, 0, 0, 0⟩
theorem take_ref (p : Pri) (F : Nat → Hd) (k : Nat) : takeB p (chs p F k) k (F k) = ((F k).good p && (decide ((chs p F k).at_ < 0) || decide ((atV (F k).v k).cmp (chs p F k) < 0))) := by
  rw [takeB_good]
  cases hg : (F k).good p with
  | false => rfl
  | true =>
    rw [Bool.true_and, Bool.true_and]
    rcases chs_inv p F k with ⟨_, h⟩ | ⟨⟨j, _, _, h⟩, _⟩
    · rw [h, decide_eq_true (show (own0 p).at_ < 0 by show (-1 : Int) < 0; omega), Bool.true_or]
      unfold Hd.good at hg
      simp at hg
      exact decide_eq_true (cmp_own0 (by rw [atV_r]; exact hg.2))
    · rw [h, decide_eq_false (show ¬ (atV (F j).v j).at_ < 0 by show ¬ (j : Int) < 0; omega), Bool.false_or]
theorem chs_at (p : Pri) (F : Nat → Hd) (n : Nat) : (chs p F n).at_ = -1 ∨ 0 ≤ (chs p F n).at_ := by
  rcases chs_inv p F n with ⟨_, h⟩ | ⟨⟨j, _, _, h⟩, _⟩
  · rw [h]; exact .inl rfl
  · rw [h]; exact .inr (by show (0 : Int) ≤ (j : Int); omega)
/-- Steps that are far from the ends. -/
def Near (x : Int) : Prop := -1099511627776 ≤ x ∧ x ≤ 1099511627776
theorem chs_near (p : Pri) (F : Nat → Hd) (n : Nat) (h : ∀ k, k < n → Near (F k).v.steps) : Near (chs p F n).steps := by
  rcases chs_inv p F n with ⟨_, e⟩ | ⟨⟨j, hj, _, e⟩, _⟩
  · rw [e]; exact ⟨by show (-1099511627776 : Int) ≤ 0; omega, by show (0 : Int) ≤ 1099511627776; omega⟩
  · rw [e]; exact h j hj
/-- One step more here is one fewer there. -/
theorem beats_ref (v : Vc) (id : Int) (c : Vc) (k : Int) (h1 : Near v.steps) (h2 : Near c.steps) : beatsB v id c k = decide ((⟨v.r, v.steps - 1, v.from_, v.port, 0⟩ : Vc).cmp ⟨c.r, c.steps, id, k, 0⟩ < 0) := by
  unfold Near at h1 h2
  have hw : wrap64 (c.steps + 1) = c.steps + 1 := by unfold wrap64; omega
  have key : ({ v with at_ := 0 } : Vc).cmp (tellV c id k) = (⟨v.r, v.steps - 1, v.from_, v.port, 0⟩ : Vc).cmp ⟨c.r, c.steps, id, k, 0⟩ := by
    unfold tellV
    rw [Vc.cmp_eq, Vc.cmp_eq, hw]
    dsimp only
    unfold Vc.tail
    dsimp only
    simp only [lx_cons, show (v.steps < c.steps + 1) ↔ (v.steps - 1 < c.steps) by omega, show (c.steps + 1 < v.steps) ↔ (c.steps < v.steps - 1) by omega]
  unfold beatsB
  rw [key]
  cases hs : (sameR v c && v.steps == c.steps) with
  | false => rw [Bool.false_or]
  | true =>
    rw [Bool.true_or]
    simp only [Bool.and_eq_true, beq_iff_eq] at hs
    obtain ⟨h3, h4⟩ := hs
    unfold sameR at h3
    have h5 : v.r = c.r := by
      have := of_decide_eq_true h3
      obtain ⟨⟨a0, a1, a2, a3⟩, _, _, _, _⟩ := v
      obtain ⟨⟨b0, b1, b2, b3⟩, _, _, _, _⟩ := c
      simp only at this
      obtain ⟨rfl, rfl, rfl, rfl⟩ := this
      rfl
    symm
    apply decide_eq_true
    rw [Vc.cmp_eq]
    dsimp only
    rw [h5, show c.r.cmp c.r = 0 from lx_self _, if_pos rfl]
    unfold Vc.tail
    dsimp only
    rw [lx_cons, if_pos (by omega)]
    decide
theorem rolesL_succ (id : Int) (c : Vc) (F : Nat → Hd) (k : Nat) : rolesL id c F k ++ [roleV id c k (F k)] = rolesL id c F (k + 1) := by unfold rolesL; rw [List.range_succ, List.map_append]; rfl
structure RchW (w : World) (p : Pri) (c : Vc) (wr : World) : Prop where
  bel : Below w.heap.size w wr
  own : wr.heap[w.heap.size]? = some (.cells #[.int .i64 p.one, .int .i64 p.cls, .int .i64 p.two, .int .i64 p.id, .int .i64 0, .int .i64 0, .int .i64 0, .int .i64 0] 30 (0, 0))
  res : wr.heap[w.heap.size + 1]? = some (.cells #[.int .i64 0, .int .i64 0, .int .i64 0, .int .i64 0, .int .i64 0, .int .i64 0, .int .i64 0, .int .i64 0] 30 (0, 0))
  chn : wr.heap[w.heap.size + 2]? = some (.cells (VC c) 30 (0, 0))
section
variable {w W W' : World} {p : Pri} {c : Vc}
theorem RchW.below (h : RchW w p c W) (hb : Below W.heap.size W W') : RchW w p c W' := ⟨bTr h.bel hb, (hb.block _ (lt_of_heap h.own)).trans h.own, (hb.block _ (lt_of_heap h.res)).trans h.res, (hb.block _ (lt_of_heap h.chn)).trans h.chn⟩
theorem RchW.set (h : RchW w p c W) (c' : Vc) : RchW w p c' (W.setRow (w.heap.size + 2) (VC c')) :=
  ⟨bRow h.bel _ (by omega) _, (setRow_other W _ _ _ (by omega)).trans h.own, (setRow_other W _ _ _ (by omega)).trans h.res, setRow_heap _ _ _ _ _ _ h.chn⟩
theorem RchW.grown {B e sz n : Nat} {xs : List Value} {v : Value} (h : RchW w p c W) (ho : W.ownsRow B e sz v n xs) (hB : w.heap.size ≤ B) (hBW : B ≤ W.heap.size) (h1 : 30 ≠ e) (hg : W.grownBy W' v.ownBlock) : RchW w p c W' :=
  ⟨h.bel.trans ((grown_below ho hg hBW).mono hB), (hg.block _ (lt_of_heap h.own) (own_ne ho h.own h1)).trans h.own, (hg.block _ (lt_of_heap h.res) (own_ne ho h.res h1)).trans h.res, (hg.block _ (lt_of_heap h.chn) (own_ne ho h.chn h1)).trans h.chn⟩
theorem RchW.start (w : World) (p : Pri) : RchW w p (own0 p) (((w.alloc (.cells #[.int .i64 p.one, .int .i64 p.cls, .int .i64 p.two, .int .i64 p.id, .int .i64 0, .int .i64 0, .int .i64 0, .int .i64 0] 30)).alloc (.cells #[.int .i64 0, .int .i64 0, .int .i64 0, .int .i64 0, .int .i64 0, .int .i64 0, .int .i64 0, .int .i64 0] 30)).alloc (.cells #[.int .i64 p.one, .int .i64 p.cls, .int .i64 p.two, .int .i64 p.id, .int .i64 0, .int .i64 p.id, .int .i64 0, .int .i64 (-1)] 30)) := by
  have h1 := bAl (bRef (w.alloc (.cells #[.int .i64 p.one, .int .i64 p.cls, .int .i64 p.two, .int .i64 p.id, .int .i64 0, .int .i64 0, .int .i64 0, .int .i64 0] 30))) (.cells #[.int .i64 0, .int .i64 0, .int .i64 0, .int .i64 0, .int .i64 0, .int .i64 0, .int .i64 0, .int .i64 0] 30)
  have h2 := bAl (bRef ((w.alloc (.cells #[.int .i64 p.one, .int .i64 p.cls, .int .i64 p.two, .int .i64 p.id, .int .i64 0, .int .i64 0, .int .i64 0, .int .i64 0] 30)).alloc (.cells #[.int .i64 0, .int .i64 0, .int .i64 0, .int .i64 0, .int .i64 0, .int .i64 0, .int .i64 0, .int .i64 0] 30))) (.cells #[.int .i64 p.one, .int .i64 p.cls, .int .i64 p.two, .int .i64 p.id, .int .i64 0, .int .i64 p.id, .int .i64 0, .int .i64 (-1)] 30)
  refine ⟨bAl (bAl (bAl (bRef w) _) _) _, ?_, ?_, ?_⟩
  · exact (h2.block _ (by simp; omega)).trans ((h1.block _ (by simp)).trans (heap_alloc_new w _))
  · exact (h2.block _ (by simp)).trans (heap_alloc2_new w _ _)
  · have := heap_alloc2_new (w.alloc (.cells #[.int .i64 p.one, .int .i64 p.cls, .int .i64 p.two, .int .i64 p.id, .int .i64 0, .int .i64 0, .int .i64 0, .int .i64 0] 30)) (.cells #[.int .i64 0, .int .i64 0, .int .i64 0, .int .i64 0, .int .i64 0, .int .i64 0, .int .i64 0, .int .i64 0] 30) (.cells #[.int .i64 p.one, .int .i64 p.cls, .int .i64 p.two, .int .i64 p.id, .int .i64 0, .int .i64 p.id, .int .i64 0, .int .i64 (-1)] 30)
    rw [show (w.alloc (.cells #[.int .i64 p.one, .int .i64 p.cls, .int .i64 p.two, .int .i64 p.id, .int .i64 0, .int .i64 0, .int .i64 0, .int .i64 0] 30)).heap.size + 1 = w.heap.size + 2 by simp] at this
    exact this
end
def RchRel (w : World) (p : Pri) (F : Nat → Hd) (n : Nat) (iv : Value) (wr : World) : Prop := ∃ k : Nat, k ≤ n ∧ iv = .int .i64 (k : Int) ∧ RchW w p (chs p F k) wr
def RroRel (w : World) (p : Pri) (F : Nat → Hd) (n : Nat) (c : Vc) (ov iv : Value) (wr : World) : Prop := ∃ k : Nat, k ≤ n ∧ iv = .int .i64 (k : Int) ∧ RchW w p c wr ∧ OwnR C1 3 1 w.heap.size wr ov (rolesL p.id c F k)
/-- What the reference's Choose leaves. -/
def RChosen (w : World) (c : Vc) (l : List Int) (e : Ending) (w' : World) : Prop := ∃ v, e = .returned (.tuple #[.agg (VC c), v]) ∧ OwnR C1 3 1 w.heap.size w' v l ∧ Below w.heap.size w w'
set_option maxRecDepth 20000 in
set_option maxHeartbeats 8000000 in
theorem rchoose_any (p : Pri) {w : World} {v : Value} {n : Nat} {F : Nat → Hd} (hA : HArg w v n F) (hn : n ≤ 1000) (hF : ∀ k, k < n → Near (F k).v.steps) : Calls Try.prog 19 #[.agg #[.int .i64 p.one, .int .i64 p.cls, .int .i64 p.two, .int .i64 p.id, .int .i64 0, .int .i64 0, .int .i64 0, .int .i64 0], v] w (RChosen w (chs p F n) (rolesL p.id (chs p F n) F n)) := by
  obtain ⟨a, c, rfl⟩ := hA.slice
  have HA := Lib.hid hA
  have HS := Lib.hid (RchW.start w p)
  have HN := Lib.hid hn
  have HF := Lib.hid hF
  clear hA hF
  go_enter Try.func19, Try.ntmps19
  go_wp2_with fail
  generalize ((w.alloc (.cells #[.int .i64 p.one, .int .i64 p.cls, .int .i64 p.two, .int .i64 p.id, .int .i64 0, .int .i64 0, .int .i64 0, .int .i64 0] 30)).alloc (.cells #[.int .i64 0, .int .i64 0, .int .i64 0, .int .i64 0, .int .i64 0, .int .i64 0, .int .i64 0, .int .i64 0] 30)).alloc (.cells #[.int .i64 p.one, .int .i64 p.cls, .int .i64 p.two, .int .i64 p.id, .int .i64 0, .int .i64 p.id, .int .i64 0, .int .i64 (-1)] 30) = W0 at *
  go_loopw [29] (fun iv wr => RchRel w p F n iv wr) (fun iv _ => n - (intOf iv).toNat)
  case atStart => exact ⟨0, by omega, rfl, HS.out⟩
  case round =>
    clear HS
    obtain ⟨k, hk, rfl, hs⟩ := hrel
    have HS := Lib.hid hs
    clear hs
    have hn := HN.out
    rcases Nat.lt_or_ge k n with g | g
    · have hd : decide ((k : Int) < (n : Int)) = true := decide_eq_true (by omega)
      obtain ⟨b, o, rfl, hlt, hall⟩ := HA.out.at (by omega)
      have HR := Lib.hid (range_below (hall k g) HS.out.bel hlt)
      clear hall
      have HC' : Hid (chs p F (k + 1) = if takeB p (chs p F k) k (F k) then atV (F k).v k else chs p F k) := Lib.hid (chs_succ p F k)
      have HT := Lib.hid (take_ref p F k)
      have hat := chs_at p F k
      generalize chs p F k = cc at *
      generalize F k = h at *
      obtain ⟨up, ok, v⟩ := h
      have HP4 := Lib.hid (fun W => rcmp4 (atV v k) (rootV p) W)
      have HP8 := Lib.hid (fun W => rcmp8 (atV v k) cc W)
      rw [show VC (atV v k) = #[.int .i64 v.r.one, .int .i64 v.r.cls, .int .i64 v.r.two, .int .i64 v.r.id, .int .i64 v.steps, .int .i64 v.from_, .int .i64 v.port, .int .i64 (k : Int)] from rfl] at HP4 HP8
      rw [show VC (rootV p) = #[.int .i64 p.one, .int .i64 p.cls, .int .i64 p.two, .int .i64 p.id, .int .i64 0, .int .i64 0, .int .i64 0, .int .i64 0] from rfl, show (rootV p).r = p from rfl, show (atV v k).r = v.r from rfl] at HP4
      have HG : Hid (Hd.good p ⟨up, ok, v⟩ = ((up && ok) && decide (v.r.cmp p < 0))) := Lib.hid rfl
      generalize takeB p cc k ⟨up, ok, v⟩ = tk at *
      generalize Hd.good p ⟨up, ok, v⟩ = gd at *
      rw [show (atV (⟨up, ok, v⟩ : Hd).v k) = atV v k from rfl] at HT
      generalize v.r.cmp p = z1 at *
      generalize (atV v k).cmp cc = z2 at *
      rw [show HC ⟨up, ok, v⟩ = #[.bool up, .bool ok, .int .i64 v.r.one, .int .i64 v.r.cls, .int .i64 v.r.two, .int .i64 v.r.id, .int .i64 v.steps, .int .i64 v.from_, .int .i64 v.port, .int .i64 v.at_] from rfl] at HR
      have HW1 := Lib.hid (HS.out.below (bAl (bAl (bRef wr) (.cells #[.bool up, .bool ok, .int .i64 v.r.one, .int .i64 v.r.cls, .int .i64 v.r.two, .int .i64 v.r.id, .int .i64 v.steps, .int .i64 v.from_, .int .i64 v.port, .int .i64 v.at_] 39)) (.cells #[.int .i64 v.r.one, .int .i64 v.r.cls, .int .i64 v.r.two, .int .i64 v.r.id, .int .i64 v.steps, .int .i64 v.from_, .int .i64 v.port, .int .i64 (k : Int)] 30)))
      have H7 := Lib.hid (show ((wr.alloc (.cells #[.bool up, .bool ok, .int .i64 v.r.one, .int .i64 v.r.cls, .int .i64 v.r.two, .int .i64 v.r.id, .int .i64 v.steps, .int .i64 v.from_, .int .i64 v.port, .int .i64 v.at_] 39)).alloc (.cells #[.int .i64 v.r.one, .int .i64 v.r.cls, .int .i64 v.r.two, .int .i64 v.r.id, .int .i64 v.steps, .int .i64 v.from_, .int .i64 v.port, .int .i64 (k : Int)] 30)).heap[wr.heap.size]? = some (.cells #[.bool up, .bool ok, .int .i64 v.r.one, .int .i64 v.r.cls, .int .i64 v.r.two, .int .i64 v.r.id, .int .i64 v.steps, .int .i64 v.from_, .int .i64 v.port, .int .i64 v.at_] 39 (0, 0)) from ((bAl (bRef _) _).block _ (by simp)).trans (heap_alloc_new wr _))
      have H8 := Lib.hid (show ((wr.alloc (.cells #[.bool up, .bool ok, .int .i64 v.r.one, .int .i64 v.r.cls, .int .i64 v.r.two, .int .i64 v.r.id, .int .i64 v.steps, .int .i64 v.from_, .int .i64 v.port, .int .i64 v.at_] 39)).alloc (.cells #[.int .i64 v.r.one, .int .i64 v.r.cls, .int .i64 v.r.two, .int .i64 v.r.id, .int .i64 v.steps, .int .i64 v.from_, .int .i64 v.port, .int .i64 (k : Int)] 30)).heap[wr.heap.size + 1]? = some (.cells #[.int .i64 v.r.one, .int .i64 v.r.cls, .int .i64 v.r.two, .int .i64 v.r.id, .int .i64 v.steps, .int .i64 v.from_, .int .i64 v.port, .int .i64 (k : Int)] 30 (0, 0)) from heap_alloc2_new wr _ _)
      go_upto_region 7 with ((with_reducible refine at_loadK ?_); refine wpList_loadW rfl _ _ rfl _ _ rfl #[.bool up, .bool ok, .int .i64 v.r.one, .int .i64 v.r.cls, .int .i64 v.r.two, .int .i64 v.r.id, .int .i64 v.steps, .int .i64 v.from_, .int .i64 v.port, .int .i64 v.at_] _ (HR.out) Try.underlying39 rfl (by kernel_rfl) ?_)
      generalize (wr.alloc (.cells #[.bool up, .bool ok, .int .i64 v.r.one, .int .i64 v.r.cls, .int .i64 v.r.two, .int .i64 v.r.id, .int .i64 v.steps, .int .i64 v.from_, .int .i64 v.port, .int .i64 v.at_] 39)).alloc (.cells #[.int .i64 v.r.one, .int .i64 v.r.cls, .int .i64 v.r.two, .int .i64 v.r.id, .int .i64 v.steps, .int .i64 v.from_, .int .i64 v.port, .int .i64 (k : Int)] 30) = W1 at *
      have c7u : W1.cell? ⟨wr.heap.size, 0, none⟩ = some (.bool up) := cell_of_row _ _ 0 _ _ _ H7.out
      have c7o : W1.cell? ⟨wr.heap.size, 1, none⟩ = some (.bool ok) := cell_of_row _ _ 1 _ _ _ H7.out
      clear hat
      cases up with
      | false =>
        obtain rfl : tk = false := by rw [HT.out, HG.out]; rfl
        go_wp2_with fail
        go_roundw
        case rel => exact ⟨k + 1, by omega, by go_num, by rw [HC'.out]; exact HW1.out⟩
        case measure => simp [intOf]; omega
      | true =>
      cases ok with
      | false =>
        obtain rfl : tk = false := by rw [HT.out, HG.out]; rfl
        go_wp2_with fail
        go_roundw
        case rel => exact ⟨k + 1, by omega, by go_num, by rw [HC'.out]; exact HW1.out⟩
        case measure => simp [intOf]; omega
      | true =>
      by_cases h1 : z1 < 0
      · obtain rfl : gd = true := by rw [HG.out]; simp [h1]
        by_cases ha : cc.at_ < 0
        · obtain rfl : tk = true := by rw [HT.out, decide_eq_true ha]; rfl
          have had : decide (cc.at_ < 0) = true := decide_eq_true ha
          go_wp2_with (first
            | ((with_reducible refine at_loadR ?_); refine wpList_loadW rfl _ _ rfl _ _ rfl #[.int .i64 v.r.one, .int .i64 v.r.cls, .int .i64 v.r.two, .int .i64 v.r.id, .int .i64 v.steps, .int .i64 v.from_, .int .i64 v.port, .int .i64 (k : Int)] _ (range_whole H82.out) Try.underlying30 rfl (by kernel_rfl) ?_)
            | ((with_reducible refine at_loadR ?_); refine wpList_loadW rfl _ _ rfl _ _ rfl #[.int .i64 v.r.one, .int .i64 v.r.cls, .int .i64 v.r.two, .int .i64 v.r.id, .int .i64 v.steps, .int .i64 v.from_, .int .i64 v.port, .int .i64 (k : Int)] _ (range_whole H8.out) Try.underlying30 rfl (by kernel_rfl) ?_)
            | ((with_reducible refine at_loadR ?_); refine wpList_loadW rfl _ _ rfl _ _ rfl #[.int .i64 p.one, .int .i64 p.cls, .int .i64 p.two, .int .i64 p.id, .int .i64 0, .int .i64 0, .int .i64 0, .int .i64 0] _ (range_whole HW1.out.own) Try.underlying30 rfl (by kernel_rfl) ?_)
            | (go_at_call 15; (with_reducible refine (HP4.out _).mono ?_); rintro e w2 ⟨rfl, hb⟩; have HW2 := Lib.hid (HW1.out.below hb); have H82 := Lib.hid ((hb.block _ (lt_of_heap H8.out)).trans H8.out); have c7 := cell_of_row _ _ 7 _ _ _ HW2.out.chn; rw [show (VC cc)[7]? = some (.int .i64 cc.at_) from rfl] at c7; clear hb)
            | ((with_reducible refine at_storeR ?_); refine wpList_store_row rfl _ _ _ rfl _ #[.int .i64 v.r.one, .int .i64 v.r.cls, .int .i64 v.r.two, .int .i64 v.r.id, .int .i64 v.steps, .int .i64 v.from_, .int .i64 v.port, .int .i64 (k : Int)] rfl rfl _ _ HW2.out.chn (by kernel_rfl) rfl (by simp [Value.oneCell']) ?_))
          go_roundw
          case rel => exact ⟨k + 1, by omega, by go_num, by rw [HC'.out]; exact HW2.out.set (atV v k)⟩
          case measure => simp [intOf]; omega
        · have had : decide (cc.at_ < 0) = false := decide_eq_false ha
          by_cases h2 : z2 < 0
          · obtain rfl : tk = true := by rw [HT.out, decide_eq_true h2, Bool.or_true]; rfl
            go_wp2_with (first
              | ((with_reducible refine at_loadR ?_); refine wpList_loadW rfl _ _ rfl _ _ rfl #[.int .i64 v.r.one, .int .i64 v.r.cls, .int .i64 v.r.two, .int .i64 v.r.id, .int .i64 v.steps, .int .i64 v.from_, .int .i64 v.port, .int .i64 (k : Int)] _ (range_whole H83.out) Try.underlying30 rfl (by kernel_rfl) ?_)
              | ((with_reducible refine at_storeR ?_); refine wpList_store_row rfl _ _ _ rfl _ #[.int .i64 v.r.one, .int .i64 v.r.cls, .int .i64 v.r.two, .int .i64 v.r.id, .int .i64 v.steps, .int .i64 v.from_, .int .i64 v.port, .int .i64 (k : Int)] rfl rfl _ _ HW3.out.chn (by kernel_rfl) rfl (by simp [Value.oneCell']) ?_)
              | ((with_reducible refine at_loadR ?_); refine wpList_loadW rfl _ _ rfl _ _ rfl (VC cc) _ (range_whole HW2.out.chn) Try.underlying30 rfl (by kernel_rfl) ?_)
              | ((with_reducible refine at_loadR ?_); refine wpList_loadW rfl _ _ rfl _ _ rfl #[.int .i64 v.r.one, .int .i64 v.r.cls, .int .i64 v.r.two, .int .i64 v.r.id, .int .i64 v.steps, .int .i64 v.from_, .int .i64 v.port, .int .i64 (k : Int)] _ (range_whole H82.out) Try.underlying30 rfl (by kernel_rfl) ?_)
              | ((with_reducible refine at_loadR ?_); refine wpList_loadW rfl _ _ rfl _ _ rfl #[.int .i64 v.r.one, .int .i64 v.r.cls, .int .i64 v.r.two, .int .i64 v.r.id, .int .i64 v.steps, .int .i64 v.from_, .int .i64 v.port, .int .i64 (k : Int)] _ (range_whole H8.out) Try.underlying30 rfl (by kernel_rfl) ?_)
              | ((with_reducible refine at_loadR ?_); refine wpList_loadW rfl _ _ rfl _ _ rfl #[.int .i64 p.one, .int .i64 p.cls, .int .i64 p.two, .int .i64 p.id, .int .i64 0, .int .i64 0, .int .i64 0, .int .i64 0] _ (range_whole HW1.out.own) Try.underlying30 rfl (by kernel_rfl) ?_)
              | (go_at_call 15; (with_reducible refine (HP4.out _).mono ?_); rintro e w2 ⟨rfl, hb⟩; have HW2 := Lib.hid (HW1.out.below hb); have H82 := Lib.hid ((hb.block _ (lt_of_heap H8.out)).trans H8.out); have c7 := cell_of_row _ _ 7 _ _ _ HW2.out.chn; rw [show (VC cc)[7]? = some (.int .i64 cc.at_) from rfl] at c7; clear hb)
              | (go_at_call 15; (with_reducible refine (HP8.out _).mono ?_); rintro e w3 ⟨rfl, hb⟩; have HW3 := Lib.hid (HW2.out.below hb); have H83 := Lib.hid ((hb.block _ (lt_of_heap H82.out)).trans H82.out); clear hb))
            go_roundw
            case rel => exact ⟨k + 1, by omega, by go_num, by rw [HC'.out]; exact HW3.out.set (atV v k)⟩
            case measure => simp [intOf]; omega
          · obtain rfl : tk = false := by rw [HT.out, decide_eq_false h2, decide_eq_false ha]; rfl
            go_wp2_with (first
              | ((with_reducible refine at_loadR ?_); refine wpList_loadW rfl _ _ rfl _ _ rfl (VC cc) _ (range_whole HW2.out.chn) Try.underlying30 rfl (by kernel_rfl) ?_)
              | ((with_reducible refine at_loadR ?_); refine wpList_loadW rfl _ _ rfl _ _ rfl #[.int .i64 v.r.one, .int .i64 v.r.cls, .int .i64 v.r.two, .int .i64 v.r.id, .int .i64 v.steps, .int .i64 v.from_, .int .i64 v.port, .int .i64 (k : Int)] _ (range_whole H82.out) Try.underlying30 rfl (by kernel_rfl) ?_)
              | ((with_reducible refine at_loadR ?_); refine wpList_loadW rfl _ _ rfl _ _ rfl #[.int .i64 v.r.one, .int .i64 v.r.cls, .int .i64 v.r.two, .int .i64 v.r.id, .int .i64 v.steps, .int .i64 v.from_, .int .i64 v.port, .int .i64 (k : Int)] _ (range_whole H8.out) Try.underlying30 rfl (by kernel_rfl) ?_)
              | ((with_reducible refine at_loadR ?_); refine wpList_loadW rfl _ _ rfl _ _ rfl #[.int .i64 p.one, .int .i64 p.cls, .int .i64 p.two, .int .i64 p.id, .int .i64 0, .int .i64 0, .int .i64 0, .int .i64 0] _ (range_whole HW1.out.own) Try.underlying30 rfl (by kernel_rfl) ?_)
              | (go_at_call 15; (with_reducible refine (HP4.out _).mono ?_); rintro e w2 ⟨rfl, hb⟩; have HW2 := Lib.hid (HW1.out.below hb); have H82 := Lib.hid ((hb.block _ (lt_of_heap H8.out)).trans H8.out); have c7 := cell_of_row _ _ 7 _ _ _ HW2.out.chn; rw [show (VC cc)[7]? = some (.int .i64 cc.at_) from rfl] at c7; clear hb)
              | (go_at_call 15; (with_reducible refine (HP8.out _).mono ?_); rintro e w3 ⟨rfl, hb⟩; have HW3 := Lib.hid (HW2.out.below hb); have H83 := Lib.hid ((hb.block _ (lt_of_heap H82.out)).trans H82.out); clear hb))
            go_roundw
            case rel => exact ⟨k + 1, by omega, by go_num, by rw [HC'.out]; exact HW3.out⟩
            case measure => simp [intOf]; omega
      · obtain rfl : tk = false := by rw [HT.out, HG.out]; simp [h1]
        go_wp2_with (first
          | ((with_reducible refine at_loadR ?_); refine wpList_loadW rfl _ _ rfl _ _ rfl #[.int .i64 v.r.one, .int .i64 v.r.cls, .int .i64 v.r.two, .int .i64 v.r.id, .int .i64 v.steps, .int .i64 v.from_, .int .i64 v.port, .int .i64 (k : Int)] _ (range_whole H8.out) Try.underlying30 rfl (by kernel_rfl) ?_)
          | ((with_reducible refine at_loadR ?_); refine wpList_loadW rfl _ _ rfl _ _ rfl #[.int .i64 p.one, .int .i64 p.cls, .int .i64 p.two, .int .i64 p.id, .int .i64 0, .int .i64 0, .int .i64 0, .int .i64 0] _ (range_whole HW1.out.own) Try.underlying30 rfl (by kernel_rfl) ?_)
          | (go_at_call 15; (with_reducible refine (HP4.out _).mono ?_); rintro e w2 ⟨rfl, hb⟩; have HW2 := Lib.hid (HW1.out.below hb); have H82 := Lib.hid ((hb.block _ (lt_of_heap H8.out)).trans H8.out); have c7 := cell_of_row _ _ 7 _ _ _ HW2.out.chn; rw [show (VC cc)[7]? = some (.int .i64 cc.at_) from rfl] at c7; clear hb))
        go_roundw
        case rel => exact ⟨k + 1, by omega, by go_num, by rw [HC'.out]; exact HW2.out⟩
        case measure => simp [intOf]; omega
    · obtain rfl : k = n := by omega
      have hd : decide ((k : Int) < (k : Int)) = false := decide_eq_false (by omega)
      have HCn := Lib.hid (chs_near p F k HF.out)
      have HCat := Lib.hid (chs_at p F k)
      generalize chs p F k = cc at *
      go_wp2_with fail
      have HO := Lib.hid (OwnR.start (C := C1) (e := 3) (m := 1) HS.out.bel.size)
      have HS3 := Lib.hid (HS.out.below (bAl (bRef wr) (.cells #[] 3)))
      go_loopw [10, 66] (fun ov iv wr => RroRel w p F k cc ov iv wr) (fun _ iv _ => k - (intOf iv).toNat)
      case atStart => exact ⟨0, by omega, rfl, HS3.out, HO.out⟩
      case round =>
        clear HO HS3 HS hd
        obtain ⟨i, hi, rfl, hs, ho⟩ := hrel
        have HS := Lib.hid hs
        have HO := Lib.hid ho
        obtain ⟨op, oc, hov⟩ := ho.slice
        rw [rolesL_len] at hov
        subst hov
        clear hs ho
        rcases Nat.lt_or_ge i k with g1 | g1
        · have hd : decide ((i : Int) < (k : Int)) = true := decide_eq_true (by omega)
          have hir : IntKind.i64.wrap (i : Int) = (i : Int) := by rw [IntKind.wrap_i64]; omega
          obtain ⟨b, o, rfl, hlt, hall⟩ := HA.out.at (by omega)
          have HR := Lib.hid (range_below (hall i g1) HS.out.bel hlt)
          clear hall
          have HL0 := Lib.hid (rolesL_succ p.id cc F i)
          have hNr := HF.out i g1
          have t0 : wr.cell? ⟨w.heap.size + 2, 0, none⟩ = some (.int .i64 cc.r.one) := cell_of_row _ _ 0 _ _ _ HS.out.chn
          have t1 : wr.cell? ⟨w.heap.size + 2, 1, none⟩ = some (.int .i64 cc.r.cls) := cell_of_row _ _ 1 _ _ _ HS.out.chn
          have t2 : wr.cell? ⟨w.heap.size + 2, 2, none⟩ = some (.int .i64 cc.r.two) := cell_of_row _ _ 2 _ _ _ HS.out.chn
          have t3 : wr.cell? ⟨w.heap.size + 2, 3, none⟩ = some (.int .i64 cc.r.id) := cell_of_row _ _ 3 _ _ _ HS.out.chn
          have t4 : wr.cell? ⟨w.heap.size + 2, 4, none⟩ = some (.int .i64 cc.steps) := cell_of_row _ _ 4 _ _ _ HS.out.chn
          have t7 : wr.cell? ⟨w.heap.size + 2, 7, none⟩ = some (.int .i64 cc.at_) := cell_of_row _ _ 7 _ _ _ HS.out.chn
          have o3 : wr.cell? ⟨w.heap.size, 3, none⟩ = some (.int .i64 p.id) := cell_of_row _ _ 3 _ _ _ HS.out.own
          have hz2 : w.heap.size + 2 < wr.heap.size := lt_of_heap HS.out.chn
          have hz0 : w.heap.size < wr.heap.size := by omega
          have hz1 : w.heap.size + 1 < wr.heap.size := by omega
          have hn0 : ¬ w.heap.size = wr.heap.size := by omega
          have hn1 : ¬ w.heap.size + 1 = wr.heap.size := by omega
          have hn2 : ¬ w.heap.size + 2 = wr.heap.size := by omega
          have hn3 : w.heap.size + 2 < wr.heap.size + 1 := by omega
          obtain ⟨rv, hrv⟩ : ∃ rv, rv = roleV p.id cc i (F i) := ⟨_, rfl⟩
          rw [← hrv] at HL0
          generalize F i = h at *
          obtain ⟨up, ok, v⟩ := h
          have hNr' : Near v.steps := hNr
          have HB := Lib.hid (beats_ref v p.id cc i hNr' HCn.out)
          unfold Near at hNr'
          have hw1 : wrap64 (v.steps - 1) = v.steps - 1 := by unfold wrap64; omega
          have HPm := Lib.hid (fun W => rcmp8 ⟨v.r, v.steps - 1, v.from_, v.port, 0⟩ ⟨cc.r, cc.steps, p.id, i, 0⟩ W)
          generalize (⟨v.r, v.steps - 1, v.from_, v.port, 0⟩ : Vc).cmp ⟨cc.r, cc.steps, p.id, i, 0⟩ = z at *
          unfold VC at HPm
          dsimp only at HPm
          have HRv : Hid (rv = roleV p.id cc i ⟨up, ok, v⟩) := Lib.hid hrv
          have hmin : (-9223372036854775808 : Int) < v.steps := by omega
          clear hrv hNr hNr'
          rw [show HC ⟨up, ok, v⟩ = #[.bool up, .bool ok, .int .i64 v.r.one, .int .i64 v.r.cls, .int .i64 v.r.two, .int .i64 v.r.id, .int .i64 v.steps, .int .i64 v.from_, .int .i64 v.port, .int .i64 v.at_] from rfl] at HR
          rcases HCat.out with ha | ha
          · have had : decide (0 ≤ cc.at_) = false := decide_eq_false (by omega)
            have hik : ((i : Int) == cc.at_) = false := by rw [beq_eq_false_iff_ne]; omega
            have HWa := Lib.hid (HS.out.below (bAl (bAl (bAl (bRef wr) (.cells #[.bool up, .bool ok, .int .i64 v.r.one, .int .i64 v.r.cls, .int .i64 v.r.two, .int .i64 v.r.id, .int .i64 v.steps, .int .i64 v.from_, .int .i64 v.port, .int .i64 v.at_] 39)) (.cells #[.int .i64 cc.r.one, .int .i64 cc.r.cls, .int .i64 cc.r.two, .int .i64 cc.r.id, .int .i64 cc.steps, .int .i64 p.id, .int .i64 (i : Int), .int .i64 0] 30)) (.cells #[.int .i64 v.r.one, .int .i64 v.r.cls, .int .i64 v.r.two, .int .i64 v.r.id, .int .i64 v.steps, .int .i64 v.from_, .int .i64 v.port, .int .i64 0] 30)))
            have HOa := Lib.hid (HO.out.below (bAl (bAl (bAl (bRef wr) (.cells #[.bool up, .bool ok, .int .i64 v.r.one, .int .i64 v.r.cls, .int .i64 v.r.two, .int .i64 v.r.id, .int .i64 v.steps, .int .i64 v.from_, .int .i64 v.port, .int .i64 v.at_] 39)) (.cells #[.int .i64 cc.r.one, .int .i64 cc.r.cls, .int .i64 cc.r.two, .int .i64 cc.r.id, .int .i64 cc.steps, .int .i64 p.id, .int .i64 (i : Int), .int .i64 0] 30)) (.cells #[.int .i64 v.r.one, .int .i64 v.r.cls, .int .i64 v.r.two, .int .i64 v.r.id, .int .i64 v.steps, .int .i64 v.from_, .int .i64 v.port, .int .i64 0] 30)))
            have h7 : ((((wr.alloc (.cells #[.bool up, .bool ok, .int .i64 v.r.one, .int .i64 v.r.cls, .int .i64 v.r.two, .int .i64 v.r.id, .int .i64 v.steps, .int .i64 v.from_, .int .i64 v.port, .int .i64 v.at_] 39)).alloc (.cells #[.int .i64 cc.r.one, .int .i64 cc.r.cls, .int .i64 cc.r.two, .int .i64 cc.r.id, .int .i64 cc.steps, .int .i64 p.id, .int .i64 (i : Int), .int .i64 0] 30)).alloc (.cells #[.int .i64 v.r.one, .int .i64 v.r.cls, .int .i64 v.r.two, .int .i64 v.r.id, .int .i64 v.steps, .int .i64 v.from_, .int .i64 v.port, .int .i64 0] 30))).cell? ⟨wr.heap.size, 0, none⟩ = some (.bool up) := cell_of_row _ _ 0 _ _ _ (((bAl (bAl (bRef _) _) _).block _ (by simp)).trans (heap_alloc_new wr _))
            have h8 : w.heap.size + 2 < ((((wr.alloc (.cells #[.bool up, .bool ok, .int .i64 v.r.one, .int .i64 v.r.cls, .int .i64 v.r.two, .int .i64 v.r.id, .int .i64 v.steps, .int .i64 v.from_, .int .i64 v.port, .int .i64 v.at_] 39)).alloc (.cells #[.int .i64 cc.r.one, .int .i64 cc.r.cls, .int .i64 cc.r.two, .int .i64 cc.r.id, .int .i64 cc.steps, .int .i64 p.id, .int .i64 (i : Int), .int .i64 0] 30)).alloc (.cells #[.int .i64 v.r.one, .int .i64 v.r.cls, .int .i64 v.r.two, .int .i64 v.r.id, .int .i64 v.steps, .int .i64 v.from_, .int .i64 v.port, .int .i64 0] 30))).heap.size := by simp; omega
            have h8' : wr.heap.size < ((((wr.alloc (.cells #[.bool up, .bool ok, .int .i64 v.r.one, .int .i64 v.r.cls, .int .i64 v.r.two, .int .i64 v.r.id, .int .i64 v.steps, .int .i64 v.from_, .int .i64 v.port, .int .i64 v.at_] 39)).alloc (.cells #[.int .i64 cc.r.one, .int .i64 cc.r.cls, .int .i64 cc.r.two, .int .i64 cc.r.id, .int .i64 cc.steps, .int .i64 p.id, .int .i64 (i : Int), .int .i64 0] 30)).alloc (.cells #[.int .i64 v.r.one, .int .i64 v.r.cls, .int .i64 v.r.two, .int .i64 v.r.id, .int .i64 v.steps, .int .i64 v.from_, .int .i64 v.port, .int .i64 0] 30))).heap.size := by simp; omega
            have HT7 := Lib.hid (cell_of_row _ _ 7 _ _ _ HWa.out.chn)
            go_upto_region 19 with ((with_reducible refine at_loadK ?_); refine wpList_loadW rfl _ _ rfl _ _ rfl #[.bool up, .bool ok, .int .i64 v.r.one, .int .i64 v.r.cls, .int .i64 v.r.two, .int .i64 v.r.id, .int .i64 v.steps, .int .i64 v.from_, .int .i64 v.port, .int .i64 v.at_] _ (HR.out) Try.underlying39 rfl (by kernel_rfl) ?_)
            generalize (((wr.alloc (.cells #[.bool up, .bool ok, .int .i64 v.r.one, .int .i64 v.r.cls, .int .i64 v.r.two, .int .i64 v.r.id, .int .i64 v.steps, .int .i64 v.from_, .int .i64 v.port, .int .i64 v.at_] 39)).alloc (.cells #[.int .i64 cc.r.one, .int .i64 cc.r.cls, .int .i64 cc.r.two, .int .i64 cc.r.id, .int .i64 cc.steps, .int .i64 p.id, .int .i64 (i : Int), .int .i64 0] 30)).alloc (.cells #[.int .i64 v.r.one, .int .i64 v.r.cls, .int .i64 v.r.two, .int .i64 v.r.id, .int .i64 v.steps, .int .i64 v.from_, .int .i64 v.port, .int .i64 0] 30)) = W1 at *
            clear t0 t1 t2 t3 t4 t7 o3
            have t7 : W1.cell? ⟨w.heap.size + 2, 7, none⟩ = some (.int .i64 cc.at_) := HT7.out
            cases up with
            | false =>
              have HL : Hid (rolesL p.id cc F i ++ [0] = rolesL p.id cc F (i + 1)) := Lib.hid (by rw [← HL0.out, HRv.out]; rfl)
              go_wp2_with ((with_reducible refine at_append ?_); refine wpList_app1 C1 1 8 3 40 Try.infoI Try.underlying40 rfl (by decide) (by decide) C1_size C1_one rfl _ _ rfl w.heap.size _ (rolesL p.id cc F i) 0 W1.heap.size rfl rfl (HOa.out.below (bAl (bRef W1) _)) (Nat.le_trans HWa.out.bel.size (by simp)) (range_whole (heap_alloc_new W1 _)) (by rw [rolesL_len]; omega) ?_; intro v' w4 hr hg4; have HS4 := Lib.hid ((HWa.out.below (bAl (bRef W1) (.cells #[.int .i64 0] 3))).grown (HOa.out.below (bAl (bRef W1) (.cells #[.int .i64 0] 3))) (Nat.le_refl _) (Nat.le_trans HWa.out.bel.size (by simp)) (by decide) hg4); have HO4 := Lib.hid hr; clear hr hg4)
              go_roundw
              case rel => exact ⟨i + 1, by omega, by go_num, HS4.out, by rw [HL.out] at HO4; exact HO4.out⟩
              case measure => simp [intOf]; omega
            | true =>
              have HL : Hid (rolesL p.id cc F i ++ [1] = rolesL p.id cc F (i + 1)) := Lib.hid (by
                rw [← HL0.out, HRv.out]
                unfold roleV
                rw [if_pos rfl, if_neg (by omega), ha]
                rfl)
              go_wp2_with ((with_reducible refine at_append ?_); refine wpList_app1 C1 1 8 3 40 Try.infoI Try.underlying40 rfl (by decide) (by decide) C1_size C1_one rfl _ _ rfl w.heap.size _ (rolesL p.id cc F i) 1 W1.heap.size rfl rfl (HOa.out.below (bAl (bRef W1) _)) (Nat.le_trans HWa.out.bel.size (by simp)) (range_whole (heap_alloc_new W1 _)) (by rw [rolesL_len]; omega) ?_; intro v' w4 hr hg4; have HS4 := Lib.hid ((HWa.out.below (bAl (bRef W1) (.cells #[.int .i64 1] 3))).grown (HOa.out.below (bAl (bRef W1) (.cells #[.int .i64 1] 3))) (Nat.le_refl _) (Nat.le_trans HWa.out.bel.size (by simp)) (by decide) hg4); have HO4 := Lib.hid hr; clear hr hg4)
              go_roundw
              case rel => exact ⟨i + 1, by omega, by go_num, HS4.out, by rw [HL.out] at HO4; exact HO4.out⟩
              case measure => simp [intOf]; omega
          · have had : decide (0 ≤ cc.at_) = true := decide_eq_true ha
            have HWb := Lib.hid (HS.out.below (bAl (bAl (bAl (bRef wr) (.cells #[.bool up, .bool ok, .int .i64 v.r.one, .int .i64 v.r.cls, .int .i64 v.r.two, .int .i64 v.r.id, .int .i64 v.steps, .int .i64 v.from_, .int .i64 v.port, .int .i64 v.at_] 39)) (.cells #[.int .i64 cc.r.one, .int .i64 cc.r.cls, .int .i64 cc.r.two, .int .i64 cc.r.id, .int .i64 cc.steps, .int .i64 p.id, .int .i64 (i : Int), .int .i64 0] 30)) (.cells #[.int .i64 v.r.one, .int .i64 v.r.cls, .int .i64 v.r.two, .int .i64 v.r.id, .int .i64 (v.steps - 1), .int .i64 v.from_, .int .i64 v.port, .int .i64 0] 30)))
            have HOb := Lib.hid (HO.out.below (bAl (bAl (bAl (bRef wr) (.cells #[.bool up, .bool ok, .int .i64 v.r.one, .int .i64 v.r.cls, .int .i64 v.r.two, .int .i64 v.r.id, .int .i64 v.steps, .int .i64 v.from_, .int .i64 v.port, .int .i64 v.at_] 39)) (.cells #[.int .i64 cc.r.one, .int .i64 cc.r.cls, .int .i64 cc.r.two, .int .i64 cc.r.id, .int .i64 cc.steps, .int .i64 p.id, .int .i64 (i : Int), .int .i64 0] 30)) (.cells #[.int .i64 v.r.one, .int .i64 v.r.cls, .int .i64 v.r.two, .int .i64 v.r.id, .int .i64 (v.steps - 1), .int .i64 v.from_, .int .i64 v.port, .int .i64 0] 30)))
            have H7 : Hid ((((wr.alloc (.cells #[.bool up, .bool ok, .int .i64 v.r.one, .int .i64 v.r.cls, .int .i64 v.r.two, .int .i64 v.r.id, .int .i64 v.steps, .int .i64 v.from_, .int .i64 v.port, .int .i64 v.at_] 39)).alloc (.cells #[.int .i64 cc.r.one, .int .i64 cc.r.cls, .int .i64 cc.r.two, .int .i64 cc.r.id, .int .i64 cc.steps, .int .i64 p.id, .int .i64 (i : Int), .int .i64 0] 30)).alloc (.cells #[.int .i64 v.r.one, .int .i64 v.r.cls, .int .i64 v.r.two, .int .i64 v.r.id, .int .i64 (v.steps - 1), .int .i64 v.from_, .int .i64 v.port, .int .i64 0] 30)).heap[wr.heap.size]? = some (.cells #[.bool up, .bool ok, .int .i64 v.r.one, .int .i64 v.r.cls, .int .i64 v.r.two, .int .i64 v.r.id, .int .i64 v.steps, .int .i64 v.from_, .int .i64 v.port, .int .i64 v.at_] 39 (0, 0))) := Lib.hid (((bAl (bAl (bRef _) _) _).block _ (by simp)).trans (heap_alloc_new wr _))
            have H8 : Hid ((((wr.alloc (.cells #[.bool up, .bool ok, .int .i64 v.r.one, .int .i64 v.r.cls, .int .i64 v.r.two, .int .i64 v.r.id, .int .i64 v.steps, .int .i64 v.from_, .int .i64 v.port, .int .i64 v.at_] 39)).alloc (.cells #[.int .i64 cc.r.one, .int .i64 cc.r.cls, .int .i64 cc.r.two, .int .i64 cc.r.id, .int .i64 cc.steps, .int .i64 p.id, .int .i64 (i : Int), .int .i64 0] 30)).alloc (.cells #[.int .i64 v.r.one, .int .i64 v.r.cls, .int .i64 v.r.two, .int .i64 v.r.id, .int .i64 (v.steps - 1), .int .i64 v.from_, .int .i64 v.port, .int .i64 0] 30)).heap[wr.heap.size + 1]? = some (.cells #[.int .i64 cc.r.one, .int .i64 cc.r.cls, .int .i64 cc.r.two, .int .i64 cc.r.id, .int .i64 cc.steps, .int .i64 p.id, .int .i64 (i : Int), .int .i64 0] 30 (0, 0))) := Lib.hid (((bAl (bRef _) _).block _ (by simp)).trans (heap_alloc2_new wr _ _))
            have H9 : Hid ((((wr.alloc (.cells #[.bool up, .bool ok, .int .i64 v.r.one, .int .i64 v.r.cls, .int .i64 v.r.two, .int .i64 v.r.id, .int .i64 v.steps, .int .i64 v.from_, .int .i64 v.port, .int .i64 v.at_] 39)).alloc (.cells #[.int .i64 cc.r.one, .int .i64 cc.r.cls, .int .i64 cc.r.two, .int .i64 cc.r.id, .int .i64 cc.steps, .int .i64 p.id, .int .i64 (i : Int), .int .i64 0] 30)).alloc (.cells #[.int .i64 v.r.one, .int .i64 v.r.cls, .int .i64 v.r.two, .int .i64 v.r.id, .int .i64 (v.steps - 1), .int .i64 v.from_, .int .i64 v.port, .int .i64 0] 30)).heap[wr.heap.size + 2]? = some (.cells #[.int .i64 v.r.one, .int .i64 v.r.cls, .int .i64 v.r.two, .int .i64 v.r.id, .int .i64 (v.steps - 1), .int .i64 v.from_, .int .i64 v.port, .int .i64 0] 30 (0, 0))) := Lib.hid (by
              have := heap_alloc2_new (wr.alloc (.cells #[.bool up, .bool ok, .int .i64 v.r.one, .int .i64 v.r.cls, .int .i64 v.r.two, .int .i64 v.r.id, .int .i64 v.steps, .int .i64 v.from_, .int .i64 v.port, .int .i64 v.at_] 39)) (.cells #[.int .i64 cc.r.one, .int .i64 cc.r.cls, .int .i64 cc.r.two, .int .i64 cc.r.id, .int .i64 cc.steps, .int .i64 p.id, .int .i64 (i : Int), .int .i64 0] 30) (.cells #[.int .i64 v.r.one, .int .i64 v.r.cls, .int .i64 v.r.two, .int .i64 v.r.id, .int .i64 (v.steps - 1), .int .i64 v.from_, .int .i64 v.port, .int .i64 0] 30)
              rw [show (wr.alloc (.cells #[.bool up, .bool ok, .int .i64 v.r.one, .int .i64 v.r.cls, .int .i64 v.r.two, .int .i64 v.r.id, .int .i64 v.steps, .int .i64 v.from_, .int .i64 v.port, .int .i64 v.at_] 39)).heap.size + 1 = wr.heap.size + 2 by simp] at this
              exact this)
            go_upto_region 21 with ((with_reducible refine at_loadK ?_); refine wpList_loadW rfl _ _ rfl _ _ rfl #[.bool up, .bool ok, .int .i64 v.r.one, .int .i64 v.r.cls, .int .i64 v.r.two, .int .i64 v.r.id, .int .i64 v.steps, .int .i64 v.from_, .int .i64 v.port, .int .i64 v.at_] _ (HR.out) Try.underlying39 rfl (by kernel_rfl) ?_)
            generalize (((wr.alloc (.cells #[.bool up, .bool ok, .int .i64 v.r.one, .int .i64 v.r.cls, .int .i64 v.r.two, .int .i64 v.r.id, .int .i64 v.steps, .int .i64 v.from_, .int .i64 v.port, .int .i64 v.at_] 39)).alloc (.cells #[.int .i64 cc.r.one, .int .i64 cc.r.cls, .int .i64 cc.r.two, .int .i64 cc.r.id, .int .i64 cc.steps, .int .i64 p.id, .int .i64 (i : Int), .int .i64 0] 30)).alloc (.cells #[.int .i64 v.r.one, .int .i64 v.r.cls, .int .i64 v.r.two, .int .i64 v.r.id, .int .i64 (v.steps - 1), .int .i64 v.from_, .int .i64 v.port, .int .i64 0] 30)) = W1 at *
            clear t0 t1 t2 t3 t4 t7 o3
            have u1 : W1.cell? ⟨wr.heap.size, 1, none⟩ = some (.bool ok) := cell_of_row _ _ 1 _ _ _ H7.out
            have hsz1 : wr.heap.size + 2 < W1.heap.size := lt_of_heap H9.out
            cases ok with
            | false =>
              have t7 : W1.cell? ⟨w.heap.size + 2, 7, none⟩ = some (.int .i64 cc.at_) := cell_of_row _ _ 7 _ _ _ HWb.out.chn
              have u0 : W1.cell? ⟨wr.heap.size, 0, none⟩ = some (.bool up) := cell_of_row _ _ 0 _ _ _ H7.out
              have HWa := HWb
              have HOa := HOb
              by_cases hik : (i : Int) = cc.at_
              · have hie : ((i : Int) == cc.at_) = true := by rw [beq_iff_eq]; exact hik
                cases up with
                | false =>
                  have HL : Hid (rolesL p.id cc F i ++ [0] = rolesL p.id cc F (i + 1)) := Lib.hid (by rw [← HL0.out, HRv.out]; rfl)
                  clear hik
                  go_wp2_with (first
                    | ((with_reducible refine at_append ?_); refine wpList_app1 C1 1 8 3 40 Try.infoI Try.underlying40 rfl (by decide) (by decide) C1_size C1_one rfl _ _ rfl w.heap.size _ (rolesL p.id cc F i) 0 W1.heap.size rfl rfl (HOa.out.below (bAl (bRef W1) _)) (Nat.le_trans HWa.out.bel.size (by simp)) (range_whole (heap_alloc_new W1 _)) (by rw [rolesL_len]; omega) ?_; intro v' w4 hr hg4; have HS4 := Lib.hid ((HWa.out.below (bAl (bRef W1) (.cells #[.int .i64 0] 3))).grown (HOa.out.below (bAl (bRef W1) (.cells #[.int .i64 0] 3))) (Nat.le_refl _) (Nat.le_trans HWa.out.bel.size (by simp)) (by decide) hg4); have HO4 := Lib.hid hr; clear hr hg4))
                  go_roundw
                  case rel => exact ⟨i + 1, by omega, by go_num, HS4.out, by rw [HL.out] at HO4; exact HO4.out⟩
                  case measure => simp [intOf]; omega
                | true =>
                  have HL : Hid (rolesL p.id cc F i ++ [2] = rolesL p.id cc F (i + 1)) := Lib.hid (by
                    rw [← HL0.out, HRv.out]
                    unfold roleV
                    rw [if_pos rfl, if_pos hik])
                  clear hik
                  go_wp2_with (first
                    | ((with_reducible refine at_append ?_); refine wpList_app1 C1 1 8 3 40 Try.infoI Try.underlying40 rfl (by decide) (by decide) C1_size C1_one rfl _ _ rfl w.heap.size _ (rolesL p.id cc F i) 2 W1.heap.size rfl rfl (HOa.out.below (bAl (bRef W1) _)) (Nat.le_trans HWa.out.bel.size (by simp)) (range_whole (heap_alloc_new W1 _)) (by rw [rolesL_len]; omega) ?_; intro v' w4 hr hg4; have HS4 := Lib.hid ((HWa.out.below (bAl (bRef W1) (.cells #[.int .i64 2] 3))).grown (HOa.out.below (bAl (bRef W1) (.cells #[.int .i64 2] 3))) (Nat.le_refl _) (Nat.le_trans HWa.out.bel.size (by simp)) (by decide) hg4); have HO4 := Lib.hid hr; clear hr hg4))
                  go_roundw
                  case rel => exact ⟨i + 1, by omega, by go_num, HS4.out, by rw [HL.out] at HO4; exact HO4.out⟩
                  case measure => simp [intOf]; omega
              · have hie : ((i : Int) == cc.at_) = false := by rw [beq_eq_false_iff_ne]; exact hik
                cases up with
                | false =>
                  have HL : Hid (rolesL p.id cc F i ++ [0] = rolesL p.id cc F (i + 1)) := Lib.hid (by rw [← HL0.out, HRv.out]; rfl)
                  clear hik
                  go_wp2_with (first
                    | ((with_reducible refine at_append ?_); refine wpList_app1 C1 1 8 3 40 Try.infoI Try.underlying40 rfl (by decide) (by decide) C1_size C1_one rfl _ _ rfl w.heap.size _ (rolesL p.id cc F i) 0 W1.heap.size rfl rfl (HOa.out.below (bAl (bRef W1) _)) (Nat.le_trans HWa.out.bel.size (by simp)) (range_whole (heap_alloc_new W1 _)) (by rw [rolesL_len]; omega) ?_; intro v' w4 hr hg4; have HS4 := Lib.hid ((HWa.out.below (bAl (bRef W1) (.cells #[.int .i64 0] 3))).grown (HOa.out.below (bAl (bRef W1) (.cells #[.int .i64 0] 3))) (Nat.le_refl _) (Nat.le_trans HWa.out.bel.size (by simp)) (by decide) hg4); have HO4 := Lib.hid hr; clear hr hg4))
                  go_roundw
                  case rel => exact ⟨i + 1, by omega, by go_num, HS4.out, by rw [HL.out] at HO4; exact HO4.out⟩
                  case measure => simp [intOf]; omega
                | true =>
                  have HL : Hid (rolesL p.id cc F i ++ [1] = rolesL p.id cc F (i + 1)) := Lib.hid (by
                    rw [← HL0.out, HRv.out]
                    unfold roleV
                    rw [if_pos rfl, if_neg hik, HB.out]
                    have : (cc.at_ != -1) = true := by rw [bne_iff_ne]; omega
                    simp [this])
                  clear hik
                  go_wp2_with (first
                    | ((with_reducible refine at_append ?_); refine wpList_app1 C1 1 8 3 40 Try.infoI Try.underlying40 rfl (by decide) (by decide) C1_size C1_one rfl _ _ rfl w.heap.size _ (rolesL p.id cc F i) 1 W1.heap.size rfl rfl (HOa.out.below (bAl (bRef W1) _)) (Nat.le_trans HWa.out.bel.size (by simp)) (range_whole (heap_alloc_new W1 _)) (by rw [rolesL_len]; omega) ?_; intro v' w4 hr hg4; have HS4 := Lib.hid ((HWa.out.below (bAl (bRef W1) (.cells #[.int .i64 1] 3))).grown (HOa.out.below (bAl (bRef W1) (.cells #[.int .i64 1] 3))) (Nat.le_refl _) (Nat.le_trans HWa.out.bel.size (by simp)) (by decide) hg4); have HO4 := Lib.hid hr; clear hr hg4))
                  go_roundw
                  case rel => exact ⟨i + 1, by omega, by go_num, HS4.out, by rw [HL.out] at HO4; exact HO4.out⟩
                  case measure => simp [intOf]; omega
            | true =>
              by_cases hz : z < 0
              · by_cases hik : (i : Int) = cc.at_
                · have hie : ((i : Int) == cc.at_) = true := by rw [beq_iff_eq]; exact hik
                  cases up with
                  | false =>
                    have HL : Hid (rolesL p.id cc F i ++ [0] = rolesL p.id cc F (i + 1)) := Lib.hid (by rw [← HL0.out, HRv.out]; rfl)
                    clear hik
                    go_wp2_with (first
                      | ((with_reducible refine at_loadR ?_); refine wpList_loadW rfl _ _ rfl _ _ rfl #[.int .i64 v.r.one, .int .i64 v.r.cls, .int .i64 v.r.two, .int .i64 v.r.id, .int .i64 (v.steps - 1), .int .i64 v.from_, .int .i64 v.port, .int .i64 0] _ (range_whole H9.out) Try.underlying30 rfl (by kernel_rfl) ?_)
                      | ((with_reducible refine at_loadR ?_); refine wpList_loadW rfl _ _ rfl _ _ rfl #[.int .i64 cc.r.one, .int .i64 cc.r.cls, .int .i64 cc.r.two, .int .i64 cc.r.id, .int .i64 cc.steps, .int .i64 p.id, .int .i64 (i : Int), .int .i64 0] _ (range_whole H8.out) Try.underlying30 rfl (by kernel_rfl) ?_)
                      | (go_at_call 15; (with_reducible refine (HPm.out _).mono ?_); rintro e w2 ⟨rfl, hb⟩; have HWa := Lib.hid (HWb.out.below hb); have HOa := Lib.hid (HOb.out.below hb); have u6 : w2.cell? ⟨wr.heap.size, 6, none⟩ = some (.int .i64 v.steps) := (cell_of_row _ _ 6 _ _ _ ((hb.block _ (lt_of_heap H7.out)).trans H7.out)); have t7 : w2.cell? ⟨w.heap.size + 2, 7, none⟩ = some (.int .i64 cc.at_) := (cell_of_row _ _ 7 _ _ _ HWa.out.chn); have hs2 : wr.heap.size < w2.heap.size := (lt_of_heap ((hb.block _ (lt_of_heap H7.out)).trans H7.out)); have u0 := (cell_of_row _ _ 0 _ _ _ ((hb.block _ (lt_of_heap H7.out)).trans H7.out)); rw [show (#[.bool false, .bool true, .int .i64 v.r.one, .int .i64 v.r.cls, .int .i64 v.r.two, .int .i64 v.r.id, .int .i64 v.steps, .int .i64 v.from_, .int .i64 v.port, .int .i64 v.at_] : Array Value)[0]? = some (.bool false) from rfl] at u0; clear hb)
                      | ((with_reducible refine at_append ?_); refine wpList_app1 C1 1 8 3 40 Try.infoI Try.underlying40 rfl (by decide) (by decide) C1_size C1_one rfl _ _ rfl w.heap.size _ (rolesL p.id cc F i) 0 w2.heap.size rfl rfl (HOa.out.below (bAl (bRef w2) _)) (Nat.le_trans HWa.out.bel.size (by simp)) (range_whole (heap_alloc_new w2 _)) (by rw [rolesL_len]; omega) ?_; intro v' w4 hr hg4; have HS4 := Lib.hid ((HWa.out.below (bAl (bRef w2) (.cells #[.int .i64 0] 3))).grown (HOa.out.below (bAl (bRef w2) (.cells #[.int .i64 0] 3))) (Nat.le_refl _) (Nat.le_trans HWa.out.bel.size (by simp)) (by decide) hg4); have HO4 := Lib.hid hr; clear hr hg4))
                    go_roundw
                    case rel => exact ⟨i + 1, by omega, by go_num, HS4.out, by rw [HL.out] at HO4; exact HO4.out⟩
                    case measure => simp [intOf]; omega
                  | true =>
                    have HL : Hid (rolesL p.id cc F i ++ [2] = rolesL p.id cc F (i + 1)) := Lib.hid (by
                      rw [← HL0.out, HRv.out]
                      unfold roleV
                      rw [if_pos rfl, if_pos hik])
                    clear hik
                    go_wp2_with (first
                      | ((with_reducible refine at_loadR ?_); refine wpList_loadW rfl _ _ rfl _ _ rfl #[.int .i64 v.r.one, .int .i64 v.r.cls, .int .i64 v.r.two, .int .i64 v.r.id, .int .i64 (v.steps - 1), .int .i64 v.from_, .int .i64 v.port, .int .i64 0] _ (range_whole H9.out) Try.underlying30 rfl (by kernel_rfl) ?_)
                      | ((with_reducible refine at_loadR ?_); refine wpList_loadW rfl _ _ rfl _ _ rfl #[.int .i64 cc.r.one, .int .i64 cc.r.cls, .int .i64 cc.r.two, .int .i64 cc.r.id, .int .i64 cc.steps, .int .i64 p.id, .int .i64 (i : Int), .int .i64 0] _ (range_whole H8.out) Try.underlying30 rfl (by kernel_rfl) ?_)
                      | (go_at_call 15; (with_reducible refine (HPm.out _).mono ?_); rintro e w2 ⟨rfl, hb⟩; have HWa := Lib.hid (HWb.out.below hb); have HOa := Lib.hid (HOb.out.below hb); have u6 : w2.cell? ⟨wr.heap.size, 6, none⟩ = some (.int .i64 v.steps) := (cell_of_row _ _ 6 _ _ _ ((hb.block _ (lt_of_heap H7.out)).trans H7.out)); have t7 : w2.cell? ⟨w.heap.size + 2, 7, none⟩ = some (.int .i64 cc.at_) := (cell_of_row _ _ 7 _ _ _ HWa.out.chn); have hs2 : wr.heap.size < w2.heap.size := (lt_of_heap ((hb.block _ (lt_of_heap H7.out)).trans H7.out)); have u0 := (cell_of_row _ _ 0 _ _ _ ((hb.block _ (lt_of_heap H7.out)).trans H7.out)); rw [show (#[.bool true, .bool true, .int .i64 v.r.one, .int .i64 v.r.cls, .int .i64 v.r.two, .int .i64 v.r.id, .int .i64 v.steps, .int .i64 v.from_, .int .i64 v.port, .int .i64 v.at_] : Array Value)[0]? = some (.bool true) from rfl] at u0; clear hb)
                      | ((with_reducible refine at_append ?_); refine wpList_app1 C1 1 8 3 40 Try.infoI Try.underlying40 rfl (by decide) (by decide) C1_size C1_one rfl _ _ rfl w.heap.size _ (rolesL p.id cc F i) 2 w2.heap.size rfl rfl (HOa.out.below (bAl (bRef w2) _)) (Nat.le_trans HWa.out.bel.size (by simp)) (range_whole (heap_alloc_new w2 _)) (by rw [rolesL_len]; omega) ?_; intro v' w4 hr hg4; have HS4 := Lib.hid ((HWa.out.below (bAl (bRef w2) (.cells #[.int .i64 2] 3))).grown (HOa.out.below (bAl (bRef w2) (.cells #[.int .i64 2] 3))) (Nat.le_refl _) (Nat.le_trans HWa.out.bel.size (by simp)) (by decide) hg4); have HO4 := Lib.hid hr; clear hr hg4))
                    go_roundw
                    case rel => exact ⟨i + 1, by omega, by go_num, HS4.out, by rw [HL.out] at HO4; exact HO4.out⟩
                    case measure => simp [intOf]; omega
                · have hie : ((i : Int) == cc.at_) = false := by rw [beq_eq_false_iff_ne]; exact hik
                  cases up with
                  | false =>
                    have HL : Hid (rolesL p.id cc F i ++ [0] = rolesL p.id cc F (i + 1)) := Lib.hid (by rw [← HL0.out, HRv.out]; rfl)
                    clear hik
                    go_wp2_with (first
                      | ((with_reducible refine at_loadR ?_); refine wpList_loadW rfl _ _ rfl _ _ rfl #[.int .i64 v.r.one, .int .i64 v.r.cls, .int .i64 v.r.two, .int .i64 v.r.id, .int .i64 (v.steps - 1), .int .i64 v.from_, .int .i64 v.port, .int .i64 0] _ (range_whole H9.out) Try.underlying30 rfl (by kernel_rfl) ?_)
                      | ((with_reducible refine at_loadR ?_); refine wpList_loadW rfl _ _ rfl _ _ rfl #[.int .i64 cc.r.one, .int .i64 cc.r.cls, .int .i64 cc.r.two, .int .i64 cc.r.id, .int .i64 cc.steps, .int .i64 p.id, .int .i64 (i : Int), .int .i64 0] _ (range_whole H8.out) Try.underlying30 rfl (by kernel_rfl) ?_)
                      | (go_at_call 15; (with_reducible refine (HPm.out _).mono ?_); rintro e w2 ⟨rfl, hb⟩; have HWa := Lib.hid (HWb.out.below hb); have HOa := Lib.hid (HOb.out.below hb); have u6 : w2.cell? ⟨wr.heap.size, 6, none⟩ = some (.int .i64 v.steps) := (cell_of_row _ _ 6 _ _ _ ((hb.block _ (lt_of_heap H7.out)).trans H7.out)); have t7 : w2.cell? ⟨w.heap.size + 2, 7, none⟩ = some (.int .i64 cc.at_) := (cell_of_row _ _ 7 _ _ _ HWa.out.chn); have hs2 : wr.heap.size < w2.heap.size := (lt_of_heap ((hb.block _ (lt_of_heap H7.out)).trans H7.out)); have u0 := (cell_of_row _ _ 0 _ _ _ ((hb.block _ (lt_of_heap H7.out)).trans H7.out)); rw [show (#[.bool false, .bool true, .int .i64 v.r.one, .int .i64 v.r.cls, .int .i64 v.r.two, .int .i64 v.r.id, .int .i64 v.steps, .int .i64 v.from_, .int .i64 v.port, .int .i64 v.at_] : Array Value)[0]? = some (.bool false) from rfl] at u0; clear hb)
                      | ((with_reducible refine at_append ?_); refine wpList_app1 C1 1 8 3 40 Try.infoI Try.underlying40 rfl (by decide) (by decide) C1_size C1_one rfl _ _ rfl w.heap.size _ (rolesL p.id cc F i) 0 w2.heap.size rfl rfl (HOa.out.below (bAl (bRef w2) _)) (Nat.le_trans HWa.out.bel.size (by simp)) (range_whole (heap_alloc_new w2 _)) (by rw [rolesL_len]; omega) ?_; intro v' w4 hr hg4; have HS4 := Lib.hid ((HWa.out.below (bAl (bRef w2) (.cells #[.int .i64 0] 3))).grown (HOa.out.below (bAl (bRef w2) (.cells #[.int .i64 0] 3))) (Nat.le_refl _) (Nat.le_trans HWa.out.bel.size (by simp)) (by decide) hg4); have HO4 := Lib.hid hr; clear hr hg4))
                    go_roundw
                    case rel => exact ⟨i + 1, by omega, by go_num, HS4.out, by rw [HL.out] at HO4; exact HO4.out⟩
                    case measure => simp [intOf]; omega
                  | true =>
                    have HL : Hid (rolesL p.id cc F i ++ [3] = rolesL p.id cc F (i + 1)) := Lib.hid (by
                      rw [← HL0.out, HRv.out]
                      unfold roleV
                      rw [if_pos rfl, if_neg hik, HB.out]
                      have : (cc.at_ != -1) = true := by rw [bne_iff_ne]; omega
                      simp [this, hz])
                    clear hik
                    go_wp2_with (first
                      | ((with_reducible refine at_loadR ?_); refine wpList_loadW rfl _ _ rfl _ _ rfl #[.int .i64 v.r.one, .int .i64 v.r.cls, .int .i64 v.r.two, .int .i64 v.r.id, .int .i64 (v.steps - 1), .int .i64 v.from_, .int .i64 v.port, .int .i64 0] _ (range_whole H9.out) Try.underlying30 rfl (by kernel_rfl) ?_)
                      | ((with_reducible refine at_loadR ?_); refine wpList_loadW rfl _ _ rfl _ _ rfl #[.int .i64 cc.r.one, .int .i64 cc.r.cls, .int .i64 cc.r.two, .int .i64 cc.r.id, .int .i64 cc.steps, .int .i64 p.id, .int .i64 (i : Int), .int .i64 0] _ (range_whole H8.out) Try.underlying30 rfl (by kernel_rfl) ?_)
                      | (go_at_call 15; (with_reducible refine (HPm.out _).mono ?_); rintro e w2 ⟨rfl, hb⟩; have HWa := Lib.hid (HWb.out.below hb); have HOa := Lib.hid (HOb.out.below hb); have u6 : w2.cell? ⟨wr.heap.size, 6, none⟩ = some (.int .i64 v.steps) := (cell_of_row _ _ 6 _ _ _ ((hb.block _ (lt_of_heap H7.out)).trans H7.out)); have t7 : w2.cell? ⟨w.heap.size + 2, 7, none⟩ = some (.int .i64 cc.at_) := (cell_of_row _ _ 7 _ _ _ HWa.out.chn); have hs2 : wr.heap.size < w2.heap.size := (lt_of_heap ((hb.block _ (lt_of_heap H7.out)).trans H7.out)); have u0 := (cell_of_row _ _ 0 _ _ _ ((hb.block _ (lt_of_heap H7.out)).trans H7.out)); rw [show (#[.bool true, .bool true, .int .i64 v.r.one, .int .i64 v.r.cls, .int .i64 v.r.two, .int .i64 v.r.id, .int .i64 v.steps, .int .i64 v.from_, .int .i64 v.port, .int .i64 v.at_] : Array Value)[0]? = some (.bool true) from rfl] at u0; clear hb)
                      | ((with_reducible refine at_append ?_); refine wpList_app1 C1 1 8 3 40 Try.infoI Try.underlying40 rfl (by decide) (by decide) C1_size C1_one rfl _ _ rfl w.heap.size _ (rolesL p.id cc F i) 3 w2.heap.size rfl rfl (HOa.out.below (bAl (bRef w2) _)) (Nat.le_trans HWa.out.bel.size (by simp)) (range_whole (heap_alloc_new w2 _)) (by rw [rolesL_len]; omega) ?_; intro v' w4 hr hg4; have HS4 := Lib.hid ((HWa.out.below (bAl (bRef w2) (.cells #[.int .i64 3] 3))).grown (HOa.out.below (bAl (bRef w2) (.cells #[.int .i64 3] 3))) (Nat.le_refl _) (Nat.le_trans HWa.out.bel.size (by simp)) (by decide) hg4); have HO4 := Lib.hid hr; clear hr hg4))
                    go_roundw
                    case rel => exact ⟨i + 1, by omega, by go_num, HS4.out, by rw [HL.out] at HO4; exact HO4.out⟩
                    case measure => simp [intOf]; omega
              · by_cases hik : (i : Int) = cc.at_
                · have hie : ((i : Int) == cc.at_) = true := by rw [beq_iff_eq]; exact hik
                  cases up with
                  | false =>
                    have HL : Hid (rolesL p.id cc F i ++ [0] = rolesL p.id cc F (i + 1)) := Lib.hid (by rw [← HL0.out, HRv.out]; rfl)
                    clear hik
                    go_wp2_with (first
                      | ((with_reducible refine at_loadR ?_); refine wpList_loadW rfl _ _ rfl _ _ rfl #[.int .i64 v.r.one, .int .i64 v.r.cls, .int .i64 v.r.two, .int .i64 v.r.id, .int .i64 (v.steps - 1), .int .i64 v.from_, .int .i64 v.port, .int .i64 0] _ (range_whole H9.out) Try.underlying30 rfl (by kernel_rfl) ?_)
                      | ((with_reducible refine at_loadR ?_); refine wpList_loadW rfl _ _ rfl _ _ rfl #[.int .i64 cc.r.one, .int .i64 cc.r.cls, .int .i64 cc.r.two, .int .i64 cc.r.id, .int .i64 cc.steps, .int .i64 p.id, .int .i64 (i : Int), .int .i64 0] _ (range_whole H8.out) Try.underlying30 rfl (by kernel_rfl) ?_)
                      | (go_at_call 15; (with_reducible refine (HPm.out _).mono ?_); rintro e w2 ⟨rfl, hb⟩; have HWa := Lib.hid (HWb.out.below hb); have HOa := Lib.hid (HOb.out.below hb); have u6 : w2.cell? ⟨wr.heap.size, 6, none⟩ = some (.int .i64 v.steps) := (cell_of_row _ _ 6 _ _ _ ((hb.block _ (lt_of_heap H7.out)).trans H7.out)); have t7 : w2.cell? ⟨w.heap.size + 2, 7, none⟩ = some (.int .i64 cc.at_) := (cell_of_row _ _ 7 _ _ _ HWa.out.chn); have hs2 : wr.heap.size < w2.heap.size := (lt_of_heap ((hb.block _ (lt_of_heap H7.out)).trans H7.out)); have u0 := (cell_of_row _ _ 0 _ _ _ ((hb.block _ (lt_of_heap H7.out)).trans H7.out)); rw [show (#[.bool false, .bool true, .int .i64 v.r.one, .int .i64 v.r.cls, .int .i64 v.r.two, .int .i64 v.r.id, .int .i64 v.steps, .int .i64 v.from_, .int .i64 v.port, .int .i64 v.at_] : Array Value)[0]? = some (.bool false) from rfl] at u0; clear hb)
                      | ((with_reducible refine at_append ?_); refine wpList_app1 C1 1 8 3 40 Try.infoI Try.underlying40 rfl (by decide) (by decide) C1_size C1_one rfl _ _ rfl w.heap.size _ (rolesL p.id cc F i) 0 w2.heap.size rfl rfl (HOa.out.below (bAl (bRef w2) _)) (Nat.le_trans HWa.out.bel.size (by simp)) (range_whole (heap_alloc_new w2 _)) (by rw [rolesL_len]; omega) ?_; intro v' w4 hr hg4; have HS4 := Lib.hid ((HWa.out.below (bAl (bRef w2) (.cells #[.int .i64 0] 3))).grown (HOa.out.below (bAl (bRef w2) (.cells #[.int .i64 0] 3))) (Nat.le_refl _) (Nat.le_trans HWa.out.bel.size (by simp)) (by decide) hg4); have HO4 := Lib.hid hr; clear hr hg4))
                    go_roundw
                    case rel => exact ⟨i + 1, by omega, by go_num, HS4.out, by rw [HL.out] at HO4; exact HO4.out⟩
                    case measure => simp [intOf]; omega
                  | true =>
                    have HL : Hid (rolesL p.id cc F i ++ [2] = rolesL p.id cc F (i + 1)) := Lib.hid (by
                      rw [← HL0.out, HRv.out]
                      unfold roleV
                      rw [if_pos rfl, if_pos hik])
                    clear hik
                    go_wp2_with (first
                      | ((with_reducible refine at_loadR ?_); refine wpList_loadW rfl _ _ rfl _ _ rfl #[.int .i64 v.r.one, .int .i64 v.r.cls, .int .i64 v.r.two, .int .i64 v.r.id, .int .i64 (v.steps - 1), .int .i64 v.from_, .int .i64 v.port, .int .i64 0] _ (range_whole H9.out) Try.underlying30 rfl (by kernel_rfl) ?_)
                      | ((with_reducible refine at_loadR ?_); refine wpList_loadW rfl _ _ rfl _ _ rfl #[.int .i64 cc.r.one, .int .i64 cc.r.cls, .int .i64 cc.r.two, .int .i64 cc.r.id, .int .i64 cc.steps, .int .i64 p.id, .int .i64 (i : Int), .int .i64 0] _ (range_whole H8.out) Try.underlying30 rfl (by kernel_rfl) ?_)
                      | (go_at_call 15; (with_reducible refine (HPm.out _).mono ?_); rintro e w2 ⟨rfl, hb⟩; have HWa := Lib.hid (HWb.out.below hb); have HOa := Lib.hid (HOb.out.below hb); have u6 : w2.cell? ⟨wr.heap.size, 6, none⟩ = some (.int .i64 v.steps) := (cell_of_row _ _ 6 _ _ _ ((hb.block _ (lt_of_heap H7.out)).trans H7.out)); have t7 : w2.cell? ⟨w.heap.size + 2, 7, none⟩ = some (.int .i64 cc.at_) := (cell_of_row _ _ 7 _ _ _ HWa.out.chn); have hs2 : wr.heap.size < w2.heap.size := (lt_of_heap ((hb.block _ (lt_of_heap H7.out)).trans H7.out)); have u0 := (cell_of_row _ _ 0 _ _ _ ((hb.block _ (lt_of_heap H7.out)).trans H7.out)); rw [show (#[.bool true, .bool true, .int .i64 v.r.one, .int .i64 v.r.cls, .int .i64 v.r.two, .int .i64 v.r.id, .int .i64 v.steps, .int .i64 v.from_, .int .i64 v.port, .int .i64 v.at_] : Array Value)[0]? = some (.bool true) from rfl] at u0; clear hb)
                      | ((with_reducible refine at_append ?_); refine wpList_app1 C1 1 8 3 40 Try.infoI Try.underlying40 rfl (by decide) (by decide) C1_size C1_one rfl _ _ rfl w.heap.size _ (rolesL p.id cc F i) 2 w2.heap.size rfl rfl (HOa.out.below (bAl (bRef w2) _)) (Nat.le_trans HWa.out.bel.size (by simp)) (range_whole (heap_alloc_new w2 _)) (by rw [rolesL_len]; omega) ?_; intro v' w4 hr hg4; have HS4 := Lib.hid ((HWa.out.below (bAl (bRef w2) (.cells #[.int .i64 2] 3))).grown (HOa.out.below (bAl (bRef w2) (.cells #[.int .i64 2] 3))) (Nat.le_refl _) (Nat.le_trans HWa.out.bel.size (by simp)) (by decide) hg4); have HO4 := Lib.hid hr; clear hr hg4))
                    go_roundw
                    case rel => exact ⟨i + 1, by omega, by go_num, HS4.out, by rw [HL.out] at HO4; exact HO4.out⟩
                    case measure => simp [intOf]; omega
                · have hie : ((i : Int) == cc.at_) = false := by rw [beq_eq_false_iff_ne]; exact hik
                  cases up with
                  | false =>
                    have HL : Hid (rolesL p.id cc F i ++ [0] = rolesL p.id cc F (i + 1)) := Lib.hid (by rw [← HL0.out, HRv.out]; rfl)
                    clear hik
                    go_wp2_with (first
                      | ((with_reducible refine at_loadR ?_); refine wpList_loadW rfl _ _ rfl _ _ rfl #[.int .i64 v.r.one, .int .i64 v.r.cls, .int .i64 v.r.two, .int .i64 v.r.id, .int .i64 (v.steps - 1), .int .i64 v.from_, .int .i64 v.port, .int .i64 0] _ (range_whole H9.out) Try.underlying30 rfl (by kernel_rfl) ?_)
                      | ((with_reducible refine at_loadR ?_); refine wpList_loadW rfl _ _ rfl _ _ rfl #[.int .i64 cc.r.one, .int .i64 cc.r.cls, .int .i64 cc.r.two, .int .i64 cc.r.id, .int .i64 cc.steps, .int .i64 p.id, .int .i64 (i : Int), .int .i64 0] _ (range_whole H8.out) Try.underlying30 rfl (by kernel_rfl) ?_)
                      | (go_at_call 15; (with_reducible refine (HPm.out _).mono ?_); rintro e w2 ⟨rfl, hb⟩; have HWa := Lib.hid (HWb.out.below hb); have HOa := Lib.hid (HOb.out.below hb); have u6 : w2.cell? ⟨wr.heap.size, 6, none⟩ = some (.int .i64 v.steps) := (cell_of_row _ _ 6 _ _ _ ((hb.block _ (lt_of_heap H7.out)).trans H7.out)); have t7 : w2.cell? ⟨w.heap.size + 2, 7, none⟩ = some (.int .i64 cc.at_) := (cell_of_row _ _ 7 _ _ _ HWa.out.chn); have hs2 : wr.heap.size < w2.heap.size := (lt_of_heap ((hb.block _ (lt_of_heap H7.out)).trans H7.out)); have u0 := (cell_of_row _ _ 0 _ _ _ ((hb.block _ (lt_of_heap H7.out)).trans H7.out)); rw [show (#[.bool false, .bool true, .int .i64 v.r.one, .int .i64 v.r.cls, .int .i64 v.r.two, .int .i64 v.r.id, .int .i64 v.steps, .int .i64 v.from_, .int .i64 v.port, .int .i64 v.at_] : Array Value)[0]? = some (.bool false) from rfl] at u0; clear hb)
                      | ((with_reducible refine at_append ?_); refine wpList_app1 C1 1 8 3 40 Try.infoI Try.underlying40 rfl (by decide) (by decide) C1_size C1_one rfl _ _ rfl w.heap.size _ (rolesL p.id cc F i) 0 w2.heap.size rfl rfl (HOa.out.below (bAl (bRef w2) _)) (Nat.le_trans HWa.out.bel.size (by simp)) (range_whole (heap_alloc_new w2 _)) (by rw [rolesL_len]; omega) ?_; intro v' w4 hr hg4; have HS4 := Lib.hid ((HWa.out.below (bAl (bRef w2) (.cells #[.int .i64 0] 3))).grown (HOa.out.below (bAl (bRef w2) (.cells #[.int .i64 0] 3))) (Nat.le_refl _) (Nat.le_trans HWa.out.bel.size (by simp)) (by decide) hg4); have HO4 := Lib.hid hr; clear hr hg4))
                    go_roundw
                    case rel => exact ⟨i + 1, by omega, by go_num, HS4.out, by rw [HL.out] at HO4; exact HO4.out⟩
                    case measure => simp [intOf]; omega
                  | true =>
                    have HL : Hid (rolesL p.id cc F i ++ [1] = rolesL p.id cc F (i + 1)) := Lib.hid (by
                      rw [← HL0.out, HRv.out]
                      unfold roleV
                      rw [if_pos rfl, if_neg hik, HB.out]
                      have : (cc.at_ != -1) = true := by rw [bne_iff_ne]; omega
                      simp [this, hz])
                    clear hik
                    go_wp2_with (first
                      | ((with_reducible refine at_loadR ?_); refine wpList_loadW rfl _ _ rfl _ _ rfl #[.int .i64 v.r.one, .int .i64 v.r.cls, .int .i64 v.r.two, .int .i64 v.r.id, .int .i64 (v.steps - 1), .int .i64 v.from_, .int .i64 v.port, .int .i64 0] _ (range_whole H9.out) Try.underlying30 rfl (by kernel_rfl) ?_)
                      | ((with_reducible refine at_loadR ?_); refine wpList_loadW rfl _ _ rfl _ _ rfl #[.int .i64 cc.r.one, .int .i64 cc.r.cls, .int .i64 cc.r.two, .int .i64 cc.r.id, .int .i64 cc.steps, .int .i64 p.id, .int .i64 (i : Int), .int .i64 0] _ (range_whole H8.out) Try.underlying30 rfl (by kernel_rfl) ?_)
                      | (go_at_call 15; (with_reducible refine (HPm.out _).mono ?_); rintro e w2 ⟨rfl, hb⟩; have HWa := Lib.hid (HWb.out.below hb); have HOa := Lib.hid (HOb.out.below hb); have u6 : w2.cell? ⟨wr.heap.size, 6, none⟩ = some (.int .i64 v.steps) := (cell_of_row _ _ 6 _ _ _ ((hb.block _ (lt_of_heap H7.out)).trans H7.out)); have t7 : w2.cell? ⟨w.heap.size + 2, 7, none⟩ = some (.int .i64 cc.at_) := (cell_of_row _ _ 7 _ _ _ HWa.out.chn); have hs2 : wr.heap.size < w2.heap.size := (lt_of_heap ((hb.block _ (lt_of_heap H7.out)).trans H7.out)); have u0 := (cell_of_row _ _ 0 _ _ _ ((hb.block _ (lt_of_heap H7.out)).trans H7.out)); rw [show (#[.bool true, .bool true, .int .i64 v.r.one, .int .i64 v.r.cls, .int .i64 v.r.two, .int .i64 v.r.id, .int .i64 v.steps, .int .i64 v.from_, .int .i64 v.port, .int .i64 v.at_] : Array Value)[0]? = some (.bool true) from rfl] at u0; clear hb)
                      | ((with_reducible refine at_append ?_); refine wpList_app1 C1 1 8 3 40 Try.infoI Try.underlying40 rfl (by decide) (by decide) C1_size C1_one rfl _ _ rfl w.heap.size _ (rolesL p.id cc F i) 1 w2.heap.size rfl rfl (HOa.out.below (bAl (bRef w2) _)) (Nat.le_trans HWa.out.bel.size (by simp)) (range_whole (heap_alloc_new w2 _)) (by rw [rolesL_len]; omega) ?_; intro v' w4 hr hg4; have HS4 := Lib.hid ((HWa.out.below (bAl (bRef w2) (.cells #[.int .i64 1] 3))).grown (HOa.out.below (bAl (bRef w2) (.cells #[.int .i64 1] 3))) (Nat.le_refl _) (Nat.le_trans HWa.out.bel.size (by simp)) (by decide) hg4); have HO4 := Lib.hid hr; clear hr hg4))
                    go_roundw
                    case rel => exact ⟨i + 1, by omega, by go_num, HS4.out, by rw [HL.out] at HO4; exact HO4.out⟩
                    case measure => simp [intOf]; omega
        · obtain rfl : i = k := by omega
          have hd : decide ((i : Int) < (i : Int)) = false := decide_eq_false (by omega)
          go_wp2_with (first
            | ((with_reducible refine at_loadR ?_); refine wpList_loadW rfl _ _ rfl _ _ rfl (VC cc) _ (range_whole HS.out.chn) Try.underlying30 rfl (by kernel_rfl) ?_)
            | ((with_reducible refine at_storeR ?_); refine wpList_store_row rfl _ _ _ rfl _ (VC cc) rfl rfl _ _ HS.out.res (by kernel_rfl) rfl (by simp [VC, Value.oneCell']) ?_))
          refine bodyW2 rfl (w.heap.size + 1) (VC cc) (.slice op i oc) _ rfl rfl (setRow_heap _ _ _ _ _ _ HS.out.res) Try.underlying30 rfl (by kernel_rfl) rfl ?_
          exact ⟨_, rfl, HO.out.row HS.out.res (by decide), bRow HS.out.bel _ (by omega) _⟩

end Go.Proofs.Ytholemjbjmkpkaa
