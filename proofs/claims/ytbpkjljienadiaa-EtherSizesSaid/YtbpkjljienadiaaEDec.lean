/- Package ether: Decode. -/
import Derived.Test.YtbpkjljienadiaaEReads
import Derived.Laws.ResultCell
namespace Go.Proofs.Ytbpkjljienadiaa
open Go.RowKit Go.Joins

namespace Fr
/-- The text that stands ahead of a check. -/
def body (b : List Nat) : List Nat := b.take (b.length - 4)
/-- Bytes that are a frame's. -/
def good (b : List Nat) : Bool := decide ((parse (body b)).chk = 0) && decide ((parse (body b)).text = body b)
/-- What is wrong with bytes. -/
def dchk (b : List Nat) : Nat :=
  if b.length < 64 then 20 else if 1600 < b.length then 3 else if Crc.opens b = false then 22 else if good b = false then 21 else 0
end Fr

/-- The data of a frame that Decode made: in memory of the call's own, that may be written. -/
def DataAt (w W : World) (v : Value) (ys : List Nat) : Prop := ∃ g, w.heap.size < g ∧ SubB W g v ys ∧ ∀ k, W.frozen? ⟨g, k, none⟩ = false
theorem DataAt.below {w W W' : World} {v : Value} {ys : List Nat} (h : DataAt w W v ys) (hb : Below W.heap.size W W') : DataAt w W' v ys := by
  obtain ⟨g, h1, h2, h3⟩ := h
  exact ⟨g, h1, h2.below hb, fun k => (hb.frozen (p := ⟨g, k, none⟩) h2.2.1).trans (h3 k)⟩
theorem DataAt.setRow {w W : World} {v : Value} {ys : List Nat} (h : DataAt w W v ys) (cs : Array Value) : DataAt w (W.setRow w.heap.size cs) v ys := by
  obtain ⟨g, h1, ⟨h2, h3, o, c, h4, h5, h6⟩, h7⟩ := h
  have hk : (W.setRow w.heap.size cs).heap[g]? = W.heap[g]? := setRow_other W w.heap.size g cs (by omega)
  exact ⟨g, h1, ⟨h2, by rw [size_setRow]; exact h3, o, c, h4, h5, fun k hl => (World.cell?_of_block (a := ⟨g, o + k, none⟩) hk).trans (h6 k hl)⟩, fun k => (World.frozen?_of_block (a := ⟨g, k, none⟩) hk).trans (h7 k)⟩

/-- What Decode answers. -/
def DecPost (w : World) (b : List Nat) (e : Ending) (w' : World) : Prop :=
  Below w.heap.size w w' ∧
  ((Fr.dchk b = 0 ∧ ∃ v, e = .returned (.tuple #[FV (Fr.parse (Fr.body b)) v, .int .i64 0]) ∧ DataAt w w' v (Fr.parse (Fr.body b)).data) ∨
   (Fr.dchk b ≠ 0 ∧ e = .returned (.tuple #[FV Fr.zero (.slice none 0 0), .int .i64 (Fr.dchk b : Int)])))

theorem bodyF2 {fn : Func} {R : Ending → World → Prop} {a : Act} {w : World} {p u : Tmp} (h : fn.results = #[.cell p 26, .tmp u]) (g : Nat) (cells : Array Value) (x : Value) (hp : a.tmps.getD p undef = .pointer (some ⟨g, 0, none⟩)) (hu : a.tmps.getD u undef = x)
    (hg : w.heap[g]? = some (.cells cells 26 (0, 0))) (hs : cells.size = 20) (hd : a.defers = []) (hr : R (.returned (.tuple #[.agg cells, x])) w) : bodyPost Try.prog fn R Exit.ret a w := by
  refine bodyPost_ret (v := .tuple #[.agg cells, x]) ?_ hd hr
  rw [results_cell_tmp h, hp, hu]
  have h2 := run_loadVar_row (P := Try.prog) w g 26 26 cells (0, 0) _ hg Try.underlying26 rfl (by rw [hs]; kernel_rfl)
  simp [asAddr, h2]

def ZC : Array Value :=
  #[.int .u8 0, .int .u8 0, .int .u8 0, .int .u8 0, .int .u8 0, .int .u8 0, .int .u8 0, .int .u8 0, .int .u8 0, .int .u8 0, .int .u8 0, .int .u8 0, .bool false, .int .i64 0, .int .i64 0, .bool false, .bool false, .int .i64 0, .int .i64 0, .slice none 0 0]
theorem Try.builtF : Try.prog.built 26 [] = some ZC := by kernel_rfl
/-- No frame, built. -/
theorem wpList_buildF {ops : Array Oper} {rest : List Oper} {o : Oper} {a : Act} {w : World} {Q : Exit → Act → World → Prop} (hg : o.guard = none) (ho : o.op = .build 26 #[])
    (h : wpList Try.prog ops Q rest (a.put o.dst (.agg ZC)) w) : wpList Try.prog ops Q (o :: rest) a w := by
  refine wpList_build hg 26 #[] ho ?_ ?_
  · rw [Array.map_empty]
    show (Try.prog.built 26 []).isSome = true
    rw [Try.builtF]; rfl
  · rw [Array.map_empty]
    show wpList Try.prog ops Q rest (a.put o.dst (.agg ((Try.prog.built 26 []).getD #[]))) w
    rw [Try.builtF]; exact h
theorem at_buildF {ops : Array Oper} {rest : List Oper} {d : Option Tmp} {t : TypeId} {s : String} {af : Array Edge} {a : Act} {w : World} {Q : Exit → Act → World → Prop}
    (h : wpList Try.prog ops Q (⟨d, .build 26 #[], t, s, af, none⟩ :: rest) a w) : wpList Try.prog ops Q (⟨d, .build 26 #[], t, s, af, none⟩ :: rest) a w := h
theorem ZC_one : ZC.all (·.oneCell') = true := frame_one 0 0 0 0 0 0 0 0 0 0 0 0 0 0 0 0 false false false none 0 0
theorem FV_zero : FV Fr.zero (.slice none 0 0) = .agg ZC := rfl

theorem dec_short (p : Option Addr) (n c : Nat) (hn : n < 64) (w : World) :
    Calls Try.prog 16 #[.slice p n c] w fun e w' => e = .returned (.tuple #[FV Fr.zero (.slice none 0 0), .int .i64 20]) ∧ Below w.heap.size w w' := by
  go_enter Try.func16, Try.ntmps16
  go_wp2_with (first
    | (with_reducible refine at_buildF ?_; refine wpList_buildF rfl rfl ?_)
    | (with_reducible refine at_storeF ?_; refine wpList_storeF rfl _ _ rfl w.heap.size ZC rfl rfl ZC_one rfl _ (heap_alloc_new w _) rfl ?_))
  refine bodyF2 rfl w.heap.size ZC _ rfl rfl (setRow_heap _ _ _ _ _ _ (heap_alloc_new w _)) rfl rfl ?_
  exact ⟨rfl, below_setRow (bAl (bRef w) _) (Nat.le_refl _) _⟩

theorem dec_long (p : Option Addr) (n c : Nat) (hn : 1600 < n) (w : World) :
    Calls Try.prog 16 #[.slice p n c] w fun e w' => e = .returned (.tuple #[FV Fr.zero (.slice none 0 0), .int .i64 3]) ∧ Below w.heap.size w w' := by
  go_enter Try.func16, Try.ntmps16
  go_wp2_with (first
    | (with_reducible refine at_buildF ?_; refine wpList_buildF rfl rfl ?_)
    | (with_reducible refine at_storeF ?_; refine wpList_storeF rfl _ _ rfl w.heap.size ZC rfl rfl ZC_one rfl _ (heap_alloc_new w _) rfl ?_))
  refine bodyF2 rfl w.heap.size ZC _ rfl rfl (setRow_heap _ _ _ _ _ _ (heap_alloc_new w _)) rfl rfl ?_
  exact ⟨rfl, below_setRow (bAl (bRef w) _) (Nat.le_refl _) _⟩

theorem keepZ {w w1 : World} {cs : Array Value} {t : TypeId} (h : Below (w.alloc (.cells cs t)).heap.size (w.alloc (.cells cs t)) w1) : w1.heap[w.heap.size]? = some (.cells cs t (0, 0)) := by
  rw [h.block _ (by simp), heap_alloc_new]
theorem dec_sum (p : Option Addr) (n c : Nat) (hn : 64 ≤ n) (hn2 : n ≤ 1600) (w : World)
    (HO : Hid (∀ wx, Below w.heap.size w wx → Calls Try.prog 28 #[.slice p n c] wx fun e w' => e = .returned (.tuple #[.slice none 0 0, .bool false]) ∧ Below wx.heap.size wx w')) :
    Calls Try.prog 16 #[.slice p n c] w fun e w' => e = .returned (.tuple #[FV Fr.zero (.slice none 0 0), .int .i64 22]) ∧ Below w.heap.size w w' := by
  go_enter Try.func16, Try.ntmps16
  go_wp2_with (first
    | (with_reducible refine at_buildF ?_; refine wpList_buildF rfl rfl ?_)
    | (with_reducible refine at_storeF ?_; refine wpList_storeF rfl _ _ rfl w.heap.size ZC rfl rfl ZC_one rfl _ HZ.out rfl ?_)
    | (go_at_call 28; (with_reducible refine (HO.out _ (bAl (bRef w) _)).mono ?_); rintro e w1 ⟨rfl, hb⟩; have HZ := Lib.hid (keepZ hb); have HB := Lib.hid (bTr (bAl (bRef w) _) hb); clear hb))
  refine bodyF2 rfl w.heap.size ZC _ rfl rfl (setRow_heap _ _ _ _ _ _ HZ.out) rfl rfl ?_
  exact ⟨rfl, below_setRow HB.out (Nat.le_refl _) _⟩

theorem setRow_new (w : World) (cs cs' : Array Value) (t : TypeId) (fr : Nat × Nat) : (w.alloc (.cells cs t fr)).setRow w.heap.size cs' = w.alloc (.cells cs' t fr) := by
  have key : (w.heap.push (.cells cs t fr)).modify w.heap.size (fun | .cells _ elem frozen => .cells cs' elem frozen | o => o) = w.heap.push (.cells cs' t fr) := by
    apply Array.ext_getElem?
    intro i
    rw [Array.getElem?_modify]
    by_cases hi : w.heap.size = i
    · subst hi; simp
    · rw [if_neg hi, Array.getElem?_push, Array.getElem?_push, if_neg (fun e => hi e.symm), if_neg (fun e => hi e.symm)]
  exact congrArg (fun h => { w with heap := h }) key
theorem FC_one (f : Fr) (p : Option Addr) (n c : Nat) : (FC f (.slice p n c)).all (·.oneCell') = true := frame_one _ _ _ _ _ _ _ _ _ _ _ _ _ _ _ _ _ _ _ _ _ _
/-- A whole frame stored into the newest block. -/
theorem wpList_storeN {ops : Array Oper} {rest : List Oper} {o : Oper} {a : Act} {w : World} {Q : Exit → Act → World → Prop} (hgd : o.guard = none) (x y : Operand) (ho : o.op = .store 26 x y)
    (cells old : Array Value) (hx : a.eval x = .pointer (some ⟨w.heap.size, 0, none⟩)) (hy : a.eval y = .agg cells) (h1 : cells.all (·.oneCell') = true) (hs : cells.size = 20) (hold : old.size = 20)
    (h : wpList Try.prog ops Q rest (a.put o.dst undef) (w.alloc (.cells cells 26))) : wpList Try.prog ops Q (o :: rest) a (w.alloc (.cells old 26)) :=
  wpList_storeF hgd x y ho w.heap.size cells hx hy h1 hs old (heap_alloc_new w _) hold (by rw [setRow_new]; exact h)

theorem dec_bad (p : Option Addr) (n c : Nat) (hn : 64 ≤ n) (hn2 : n ≤ 1600) (w : World) (f : Fr) (x : Nat) (hx : (((x : Nat) : Int) != 0) = true)
    (HO : Hid (∀ wx, Below w.heap.size w wx → w.heap.size < wx.heap.size → Calls Try.prog 28 #[.slice p n c] wx fun e w' => ∃ v, e = .returned (.tuple #[v, .bool true]) ∧ Below wx.heap.size wx w' ∧
      (∀ w2, Below w'.heap.size w' w2 → Calls Try.prog 29 #[v] w2 fun e w3 => ∃ q k d, e = .returned (FV f (.slice q k d)) ∧ Below w2.heap.size w2 w3 ∧ 
        Ret 15 #[FV f (.slice q k d)] (.int .i64 (x : Int))))) :
    Calls Try.prog 16 #[.slice p n c] w fun e w' => e = .returned (.tuple #[FV Fr.zero (.slice none 0 0), .int .i64 21]) ∧ Below w.heap.size w w' := by
  go_enter Try.func16, Try.ntmps16
  go_wp2_with (first
    | (with_reducible refine at_buildF ?_; refine wpList_buildF rfl rfl ?_)
    | (with_reducible refine at_storeF ?_; refine wpList_storeN rfl _ _ rfl (FC f (.slice q1 k1 d1)) _ rfl rfl (FC_one f q1 k1 d1) rfl rfl ?_)
    | (with_reducible refine at_storeF ?_; refine wpList_storeF rfl _ _ rfl w.heap.size ZC rfl rfl ZC_one rfl _ HZ.out rfl ?_)
    | (with_reducible refine at_loadF ?_; refine wpList_loadF rfl _ rfl w2.heap.size rfl _ _ (heap_alloc_new w2 _) rfl ?_)
    | (go_at_call 28; (with_reducible refine (HO.out _ (bAl (bRef w) _) (by simp)).mono ?_); rintro e w1 ⟨v1, rfl, hb, hr⟩; have HZ := Lib.hid (keepZ hb); have HB := Lib.hid (bTr (bAl (bRef w) _) hb); have HR := Lib.hid hr; clear hb hr)
    | (go_at_call 29; (with_reducible refine (HR.out _ (bRef _)).mono ?_); rintro e w2 ⟨q1, k1, d1, rfl, hb, hk⟩; have HK : Hid (Ret 15 #[.agg (FC f (.slice q1 k1 d1))] (.int .i64 (x : Int))) := Lib.hid hk; replace HZ := Lib.hid (Oth.below hb _ _ _ _ HZ.out (by decide)); replace HB := Lib.hid (bTr HB.out hb); clear hb hk)
    | (go_at_call 15; (with_reducible refine (HK.out.go _).mono ?_); rintro e w3 ⟨rfl, hb⟩; replace HZ := Lib.hid (Oth.below hb _ _ _ _ (Oth.below (bAl (bRef w2) _) _ _ _ _ HZ.out (by decide)) (by decide)); replace HB := Lib.hid (bTr (bAl HB.out _) hb); clear hb))
  refine bodyF2 rfl w.heap.size ZC _ rfl rfl (setRow_heap _ _ _ _ _ _ HZ.out) rfl rfl ?_
  exact ⟨rfl, below_setRow HB.out (Nat.le_refl _) _⟩

/-- A whole frame loaded behind a guard. -/
theorem wpList_loadG {ops : Array Oper} {rest : List Oper} {o : Oper} {a : Act} {w : World} {Q : Exit → Act → World → Prop} (hw : Region.wanted o (yielded ops a.tmps) = true) (x : Operand) (ho : o.op = .load 26 x)
    (g : Nat) (hx : a.eval x = .pointer (some ⟨g, 0, none⟩)) (cs : Array Value) (fr : Nat × Nat) (hg : w.heap[g]? = some (.cells cs 26 fr)) (hs : cs.size = 20)
    (h : wpList Try.prog ops Q rest (a.put o.dst (.agg cs)) w) : wpList Try.prog ops Q (o :: rest) a w :=
  BigFrame.wpList_want hw fun _ hK => wp_load_row 26 x ho g hx 26 cs fr _ hg Try.underlying26 rfl (by rw [hs]; kernel_rfl) (hK _ _ h)
theorem at_loadG {ops : Array Oper} {rest : List Oper} {d : Option Tmp} {x : Operand} {t : TypeId} {s : String} {af : Array Edge} {gd : Nat × Bool} {a : Act} {w : World} {Q : Exit → Act → World → Prop}
    (h : wpList Try.prog ops Q (⟨d, .load 26 x, t, s, af, some gd⟩ :: rest) a w) : wpList Try.prog ops Q (⟨d, .load 26 x, t, s, af, some gd⟩ :: rest) a w := h

theorem dec_text (p : Option Addr) (n c : Nat) (hn : 64 ≤ n) (hn2 : n ≤ 1600) (w : World) (f : Fr) (eq : Bool) (hq : eq = false)
    (HO : Hid (∀ wx, Below w.heap.size w wx → w.heap.size < wx.heap.size → Calls Try.prog 28 #[.slice p n c] wx fun e w' => ∃ v, e = .returned (.tuple #[v, .bool true]) ∧ Below wx.heap.size wx w' ∧
      (∀ w2, Below w'.heap.size w' w2 → Calls Try.prog 29 #[v] w2 fun e w3 => ∃ q k d, e = .returned (FV f (.slice q k d)) ∧ Below w2.heap.size w2 w3 ∧ 
        Ret 15 #[FV f (.slice q k d)] (.int .i64 0) ∧
        (∀ w4, Below w3.heap.size w3 w4 → Calls Try.prog 25 #[FV f (.slice q k d)] w4 fun e w5 => ∃ v5, e = .returned v5 ∧ Below w4.heap.size w4 w5 ∧
          Calls Try.prog 30 #[v5, v] w5 fun e w6 => e = .returned (.bool eq) ∧ w5 = w6)))) :
    Calls Try.prog 16 #[.slice p n c] w fun e w' => e = .returned (.tuple #[FV Fr.zero (.slice none 0 0), .int .i64 21]) ∧ Below w.heap.size w w' := by
  subst hq
  go_enter Try.func16, Try.ntmps16
  go_wp2_with (first
    | (with_reducible refine at_buildF ?_; refine wpList_buildF rfl rfl ?_)
    | (with_reducible refine at_storeF ?_; refine wpList_storeN rfl _ _ rfl (FC f (.slice q1 k1 d1)) _ rfl rfl (FC_one f q1 k1 d1) rfl rfl ?_)
    | (with_reducible refine at_storeF ?_; refine wpList_storeF rfl _ _ rfl w.heap.size ZC rfl rfl ZC_one rfl _ HZ.out rfl ?_)
    | (with_reducible refine at_loadF ?_; refine wpList_loadF rfl _ rfl w2.heap.size rfl _ _ (heap_alloc_new w2 _) rfl ?_)
    | (with_reducible refine at_loadG ?_; refine wpList_loadG rfl _ rfl w2.heap.size rfl _ _ HF.out rfl ?_)
    | (go_at_call 28; (with_reducible refine (HO.out _ (bAl (bRef w) _) (by simp)).mono ?_); rintro e w1 ⟨v1, rfl, hb, hr⟩; have HZ := Lib.hid (keepZ hb); have HB := Lib.hid (bTr (bAl (bRef w) _) hb); have HR := Lib.hid hr; clear hb hr)
    | (go_at_call 29; (with_reducible refine (HR.out _ (bRef _)).mono ?_); rintro e w2 ⟨q1, k1, d1, rfl, hb, hk, ht⟩; have HK : Hid (Ret 15 #[.agg (FC f (.slice q1 k1 d1))] (.int .i64 0)) := Lib.hid hk; have HT : Hid (∀ w4, Below w2.heap.size w2 w4 → Calls Try.prog 25 #[.agg (FC f (.slice q1 k1 d1))] w4 fun e w5 => ∃ v5, e = .returned v5 ∧ Below w4.heap.size w4 w5 ∧
          Calls Try.prog 30 #[v5, v1] w5 fun e w6 => e = .returned (.bool false) ∧ w5 = w6) := Lib.hid ht; replace HZ := Lib.hid (Oth.below hb _ _ _ _ HZ.out (by decide)); replace HB := Lib.hid (bTr HB.out hb); clear hb hk ht)
    | (go_at_call 15; (with_reducible refine (HK.out.go _).mono ?_); rintro e w3 ⟨rfl, hb⟩; replace HZ := Lib.hid (Oth.below hb _ _ _ _ (Oth.below (bAl (bRef w2) _) _ _ _ _ HZ.out (by decide)) (by decide)); have HF := Lib.hid (keepZ hb); have H23 := Lib.hid (bTr (bAl (bRef w2) _) hb); replace HB := Lib.hid (bTr (bAl HB.out _) hb); clear hb)
    | (go_at_call 25; (with_reducible refine (HT.out _ H23.out).mono ?_); rintro e w4 ⟨v5, rfl, hb, he⟩; replace HZ := Lib.hid (Oth.below hb _ _ _ _ HZ.out (by decide)); replace HB := Lib.hid (bTr HB.out hb); have HE := Lib.hid he; clear hb he)
    | (go_at_call 30; (with_reducible refine HE.out.mono ?_); rintro e w5 ⟨rfl, rfl⟩))
  refine bodyF2 rfl w.heap.size ZC _ rfl rfl (setRow_heap _ _ _ _ _ _ HZ.out) rfl rfl ?_
  exact ⟨rfl, below_setRow HB.out (Nat.le_refl _) _⟩

theorem dec_good (p : Option Addr) (n c : Nat) (hn : 64 ≤ n) (hn2 : n ≤ 1600) (w : World) (f : Fr) (ys : List Nat)
    (HO : Hid (∀ wx, Below w.heap.size w wx → w.heap.size < wx.heap.size → Calls Try.prog 28 #[.slice p n c] wx fun e w' => ∃ v, e = .returned (.tuple #[v, .bool true]) ∧ Below wx.heap.size wx w' ∧
      (∀ w2, Below w'.heap.size w' w2 → Calls Try.prog 29 #[v] w2 fun e w3 => ∃ q k d, e = .returned (FV f (.slice q k d)) ∧ Below w2.heap.size w2 w3 ∧ DataAt w w3 (.slice q k d) ys ∧ 
        Ret 15 #[FV f (.slice q k d)] (.int .i64 0) ∧
        (∀ w4, Below w3.heap.size w3 w4 → Calls Try.prog 25 #[FV f (.slice q k d)] w4 fun e w5 => ∃ v5, e = .returned v5 ∧ Below w4.heap.size w4 w5 ∧
          Calls Try.prog 30 #[v5, v] w5 fun e w6 => e = .returned (.bool true) ∧ w5 = w6)))) :
    Calls Try.prog 16 #[.slice p n c] w fun e w' => ∃ v, e = .returned (.tuple #[FV f v, .int .i64 0]) ∧ Below w.heap.size w w' ∧ DataAt w w' v ys := by
  go_enter Try.func16, Try.ntmps16
  go_wp2_with (first
    | (with_reducible refine at_buildF ?_; refine wpList_buildF rfl rfl ?_)
    | (with_reducible refine at_storeF ?_; refine wpList_storeN rfl _ _ rfl (FC f (.slice q1 k1 d1)) _ rfl rfl (FC_one f q1 k1 d1) rfl rfl ?_)
    | (with_reducible refine at_storeF ?_; refine wpList_storeF rfl _ _ rfl w.heap.size (FC f (.slice q1 k1 d1)) rfl rfl (FC_one f q1 k1 d1) rfl _ HZ.out rfl ?_)
    | (with_reducible refine at_loadF ?_; refine wpList_loadF rfl _ rfl w2.heap.size rfl _ _ (heap_alloc_new w2 _) rfl ?_)
    | (with_reducible refine at_loadF ?_; refine wpList_loadF rfl _ rfl w2.heap.size rfl _ _ HF.out rfl ?_)
    | (with_reducible refine at_loadG ?_; refine wpList_loadG rfl _ rfl w2.heap.size rfl _ _ HF.out rfl ?_)
    | (go_at_call 28; (with_reducible refine (HO.out _ (bAl (bRef w) _) (by simp)).mono ?_); rintro e w1 ⟨v1, rfl, hb, hr⟩; have HZ := Lib.hid (keepZ hb); have HB := Lib.hid (bTr (bAl (bRef w) _) hb); have HR := Lib.hid hr; clear hb hr)
    | (go_at_call 29; (with_reducible refine (HR.out _ (bRef _)).mono ?_); rintro e w2 ⟨q1, k1, d1, rfl, hb, hd, hk, ht⟩; have HD := Lib.hid hd; have HK : Hid (Ret 15 #[.agg (FC f (.slice q1 k1 d1))] (.int .i64 0)) := Lib.hid hk; have HT : Hid (∀ w4, Below w2.heap.size w2 w4 → Calls Try.prog 25 #[.agg (FC f (.slice q1 k1 d1))] w4 fun e w5 => ∃ v5, e = .returned v5 ∧ Below w4.heap.size w4 w5 ∧
          Calls Try.prog 30 #[v5, v1] w5 fun e w6 => e = .returned (.bool true) ∧ w5 = w6) := Lib.hid ht; replace HZ := Lib.hid (Oth.below hb _ _ _ _ HZ.out (by decide)); replace HB := Lib.hid (bTr HB.out hb); clear hb hk ht hd)
    | (go_at_call 15; (with_reducible refine (HK.out.go _).mono ?_); rintro e w3 ⟨rfl, hb⟩; replace HZ := Lib.hid (Oth.below hb _ _ _ _ (Oth.below (bAl (bRef w2) _) _ _ _ _ HZ.out (by decide)) (by decide)); have HF := Lib.hid (keepZ hb); have H23 := Lib.hid (bTr (bAl (bRef w2) _) hb); replace HD := Lib.hid (HD.out.below H23.out); replace HB := Lib.hid (bTr (bAl HB.out _) hb); clear hb)
    | (go_at_call 25; (with_reducible refine (HT.out _ H23.out).mono ?_); rintro e w4 ⟨v5, rfl, hb, he⟩; replace HZ := Lib.hid (Oth.below hb _ _ _ _ HZ.out (by decide)); replace HF := Lib.hid (Oth.below hb _ _ _ _ HF.out (by decide)); replace HB := Lib.hid (bTr HB.out hb); replace HD := Lib.hid (HD.out.below hb); have HE := Lib.hid he; clear hb he)
    | (go_at_call 30; (with_reducible refine HE.out.mono ?_); rintro e w5 ⟨rfl, rfl⟩))
  refine bodyF2 rfl w.heap.size (FC f (.slice q1 k1 d1)) _ rfl rfl (setRow_heap _ _ _ _ _ _ HZ.out) rfl rfl ?_
  exact ⟨_, rfl, below_setRow HB.out (Nat.le_refl _) _, HD.out.setRow _⟩

end Go.Proofs.Ytbpkjljienadiaa
