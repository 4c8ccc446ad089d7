/- For any clock and any list of what ports have heard BestChoose answers true: the best clock that is known, and what each port is to do, are as the document says. No condition. -/
import Derived.Test.YtihddpoaemhlnaaFBestChoose
import Derived.Test.YtihddpoaemhlnaaBtLaw
import Derived.Test.YtihddpoaemhlnaaBtHApp
namespace Go.Proofs.Ytihddpoaemhlnaa
open Go.RowKit Go.Joins

/-- What the ports have heard, one behind the other. -/
def hdL (F : Nat → Hd) (k : Nat) : List Hd := (List.range k).map F
theorem hdL_succ (F : Nat → Hd) (k : Nat) : hdL F k ++ [F k] = hdL F (k + 1) := by unfold hdL; rw [List.range_succ, List.map_append]; rfl
theorem hdL_len (F : Nat → Hd) (k : Nat) : (hdL F k).length = k := by unfold hdL; simp
def d0 : Hd := ⟨false, false, ⟨⟨0, 0, 0, 0⟩, 0, 0, 0, 0⟩⟩
theorem hdL_at (F : Nat → Hd) {n k : Nat} (h : k < n) : (hdL F n).getD k d0 = F k := by
  unfold hdL
  rw [List.getD_eq_getElem?_getD]
  simp [h]
theorem chs_hd (p : Pri) (F : Nat → Hd) (n : Nat) : ∀ k, k ≤ n → chs p (fun i => (hdL F n).getD i d0) k = chs p F k
  | 0, _ => rfl
  | k + 1, hk => by rw [chs_succ, chs_succ, chs_hd p F n k (by omega), hdL_at F (by omega)]
theorem roles_hd (id : Int) (c : Vc) (F : Nat → Hd) (n : Nat) : rolesL id c (fun i => (hdL F n).getD i d0) n = rolesL id c F n := by
  unfold rolesL
  apply List.map_congr_left
  intro k hk
  rw [List.mem_range] at hk
  show roleV id c k ((hdL F n).getD k d0) = _
  rw [hdL_at F hk]
/-- A law's own box, a port's box, and a row that grows. -/
structure SB (w : World) (p : Pri) (h : Hd) (bx : Nat) (lv : Value) (L : List Hd) (V : World) : Prop where
  law : LawW w p V
  box : V.heap[bx]? = some (.cells (HC h) 37 (0, 0))
  row : OwnR HC 39 10 w.heap.size V lv L
structure LB (w : World) (p : Pri) (h : Hd) (bx : Nat) (V : World) : Prop where
  law : LawW w p V
  box : V.heap[bx]? = some (.cells (HC h) 37 (0, 0))
section
variable {w V V' : World} {p : Pri} {h : Hd} {bx : Nat} {lv : Value} {L : List Hd}
theorem SB.below (k : SB w p h bx lv L V) (hb : Below V.heap.size V V') : SB w p h bx lv L V' := ⟨k.law.below hb, (hb.block _ (lt_of_heap k.box)).trans k.box, k.row.below hb⟩
theorem SB.drew (k : SB w p h bx lv L V) : SB w p h bx lv L V.drew := k.below ⟨rfl, rfl, rfl, Nat.le_refl _, fun _ _ => rfl⟩
theorem SB.lb (k : SB w p h bx lv L V) : LB w p h bx V := ⟨k.law, k.box⟩
theorem LB.c0 (k : LB w p h bx V) : V.cell? ⟨bx, 0, none⟩ = some (.bool h.up) := cell_of_row _ _ 0 _ _ _ k.box
theorem LB.c1 (k : LB w p h bx V) : V.cell? ⟨bx, 1, none⟩ = some (.bool h.ok) := cell_of_row _ _ 1 _ _ _ k.box
theorem LawW.grown {B e sz n : Nat} {xs : List Value} {v : Value} (k : LawW w p V) (ho : V.ownsRow B e sz v n xs) (hB : w.heap.size ≤ B) (hBW : B ≤ V.heap.size) (h1 : 23 ≠ e) (hg : V.grownBy V' v.ownBlock) : LawW w p V' :=
  ⟨k.bel.trans ((grown_below ho hg hBW).mono hB), (hg.block _ (lt_of_heap k.own) (own_ne ho k.own h1)).trans k.own⟩
theorem SB.grown (k : SB w p h bx lv L V) {v' : Value} {L2 : List Hd} (e : L ++ [h] = L2) (hr : OwnR HC 39 10 w.heap.size V' v' (L ++ [h])) (hg : V.grownBy V' lv.ownBlock) : SB w p h bx v' L2 V' :=
  ⟨k.law.grown k.row (Nat.le_refl _) k.law.bel.size (by decide) hg, (hg.block _ (lt_of_heap k.box) (own_ne k.row k.box (by decide))).trans k.box, e ▸ hr⟩
end
/-- All that the law holds at its end. -/
structure CB (w : World) (p : Pri) (c : Vc) (b g : Nat) (l : List Int) (b2 : Nat) (ov : Value) (V : World) : Prop where
  lawc : LawC w p c b g l V
  rbox : V.heap[b2]? = some (.cells (VC c) 30 (0, 0))
  own : OwnR C1 3 1 w.heap.size V ov l
theorem CB.below {w V V' : World} {p : Pri} {c : Vc} {b g : Nat} {l : List Int} {b2 : Nat} {ov : Value} (h : CB w p c b g l b2 ov V) (hb : Below V.heap.size V V') : CB w p c b g l b2 ov V' := ⟨h.lawc.below hb, (hb.block _ (lt_of_heap h.rbox)).trans h.rbox, h.own.below hb⟩
theorem CB.drew {w V : World} {p : Pri} {c : Vc} {b g : Nat} {l : List Int} {b2 : Nat} {ov : Value} (h : CB w p c b g l b2 ov V) : CB w p c b g l b2 ov V.drew := h.below ⟨rfl, rfl, rfl, Nat.le_refl _, fun _ _ => rfl⟩
theorem OwnR.wide {α : Type} {C : α → Array Value} {e : TypeId} {m B B' : Nat} {W : World} {v : Value} {L : List α} (h : OwnR C e m B W v L) (hB : B' ≤ B) : OwnR C e m B' W v L := by
  refine ⟨h.1, ?_⟩
  rcases h.2 with h | ⟨g, cap, cur, e1, e2, e3⟩
  · exact .inl h
  · exact .inr ⟨g, cap, cur, e1, Nat.le_trans hB e2, e3⟩
theorem loadOp {a : Act} {o : Oper} {W : World} (ty : TypeId) (x : Operand) (ho : o.op = .load ty x) (b f : Nat) (cs : Array Value) (d : TypeDesc) (hc : W.rangeAt b f cs.toList) (hu : Try.prog.underlying ty = some d) (hd : d.isRow = true) (hi : (Try.prog.info? ty).map (·.size) = some cs.size) (hx : a.eval x = .pointer (some ⟨b, f, none⟩)) : (execOp a.eval o).run Try.prog W = .ok (.value (.agg cs)) W := by
  have k := run_loadAt_mid (P := Try.prog) W b f ty cs.toList _ hc hu hd (by simpa using hi)
  unfold execOp
  simp only [ho, hx]
  rw [Sem.run_bind, k]
  rfl
theorem buildOp (t : TypeId) (ps : Array (Nat × Operand)) {o : Oper} (ho : o.op = .build t ps) {a : Act} (cs : Array Value) (hb : Try.prog.built t (ps.map fun (i, x) => (i, a.eval x)).toList = some cs) (W : World) : (execOp a.eval o).run Try.prog W = .ok (.value (.agg cs)) W := by
  unfold execOp
  simp only [ho, Sem.run_bind, run_build W t _ cs hb, Result.andThen_ok]
  rfl
theorem bsK_op {a : Act} {o : Oper} (s0 : Operand) (ho : o.op = .buildSlice 35 1 #[(0, s0)]) {up ok : Bool} {v : Vc} (h0 : a.eval s0 = .agg #[.bool up, .bool ok, .int .i64 v.r.one, .int .i64 v.r.cls, .int .i64 v.r.two, .int .i64 v.r.id, .int .i64 v.steps, .int .i64 v.from_, .int .i64 v.port, .int .i64 v.at_]) (W : World) :
    (execOp a.eval o).run Try.prog W = .ok (.value (.slice (some ⟨W.heap.size, 0, none⟩) 1 1)) (W.alloc (.cells #[.bool up, .bool ok, .int .i64 v.r.one, .int .i64 v.r.cls, .int .i64 v.r.two, .int .i64 v.r.id, .int .i64 v.steps, .int .i64 v.from_, .int .i64 v.port, .int .i64 v.at_] 39)) := by
  unfold execOp
  simp only [ho]
  simp only [List.map_toArray, List.map_cons, List.map_nil, h0]
  kernel_rfl
def ChcRel (w : World) (p : Pri) (F : Nat → Hd) (n : Nat) (lv iv : Value) (wr : World) : Prop := ∃ k : Nat, k ≤ n ∧ iv = .int .i64 (k : Int) ∧ (∀ j, j < k → Near (F j).v.steps) ∧ LawW w p wr ∧ OwnR HC 39 10 w.heap.size wr lv (hdL F k)
def ChcRel2 (n : Nat) (W : World) (iv : Value) (wr : World) : Prop := ∃ k : Nat, k ≤ n ∧ iv = .int .i64 (k : Int) ∧ ∃ m, wr = W.drewN m
set_option maxRecDepth 20000 in
set_option maxHeartbeats 8000000 in
theorem bestChoose_any (p : Pri) {w : World} {v : Value} {n : Nat} {F : Nat → Hd} (hA : HArg w v n F) : Calls Try.prog 4 #[.agg (PC p), v] w fun e w' => e = .returned (.bool true) ∧ Below w.heap.size w w' := by
  obtain ⟨a, c, rfl⟩ := hA.slice
  have HA := Lib.hid hA
  have HS := Lib.hid (LawW.start w p)
  have HH := Lib.hid (fun W => head_ret W)
  unfold PC at HS ⊢
  rcases Nat.lt_or_ge 40 n with g40 | g40
  · have hd : decide ((40 : Int) < (n : Int)) = true := decide_eq_true (by omega)
    clear hA
    go_enter Try.func4, Try.ntmps4
    go_wp2_with (go_at_call 17; (with_reducible refine (HH.out _).mono ?_); rintro e w1 ⟨rfl, hb⟩)
    go_ret
    exact ⟨rfl, bTr (bAl (bRef w) _) hb⟩
  have hd40 : decide ((40 : Int) < (n : Int)) = false := decide_eq_false (by omega)
  have HN := Lib.hid g40
  have HCh := Lib.hid (fun W (hb : Below w.heap.size w W) => Choose_any p (hA.below hb) (Nat.le_trans g40 (by decide)))
  have HCr := Lib.hid (fun W v (hf : ∀ j, j < n → Near (F j).v.steps) (h : OwnR HC 39 10 w.heap.size W v (hdL F n)) => rchoose_any p (harg_own h d0) (by rw [hdL_len]; exact Nat.le_trans g40 (by decide)) (fun k hk => by rw [hdL_len] at hk; show Near ((hdL F n).getD k d0).v.steps; rw [hdL_at F hk]; exact hf k hk))
  have hll := rolesL_len p.id (chs p F n) F n
  unfold PC Chosen at HCh
  unfold RChosen at HCr
  rw [hdL_len, chs_hd p F n n (Nat.le_refl _), roles_hd] at HCr
  rw [hll] at HCh
  have HLn := Lib.hid hll
  generalize rolesL p.id (chs p F n) F n = l at *
  generalize chs p F n = cc at *
  clear hA g40 hll
  unfold VC at HCh HCr
  go_enter Try.func4, Try.ntmps4
  go_wp2_with (first
    | (go_at_call 17; (with_reducible refine (HH.out _).mono ?_); rintro e w1 ⟨rfl, hb⟩; have HS1 := Lib.hid (HS.out.below hb); clear hb))
  have HO := Lib.hid (OwnR.start (C := HC) (e := 39) (m := 10) HS1.out.bel.size)
  have HS2 := Lib.hid (HS1.out.below (bAl (bRef w1) (.cells #[] 39)))
  go_loopw [5, 21] (fun lv iv wr => ChcRel w p F n lv iv wr) (fun _ iv _ => n - (intOf iv).toNat)
  case atStart => exact ⟨0, by omega, rfl, fun j hj => by omega, HS2.out, HO.out⟩
  case round =>
    clear HS HS1 HS2 HO HH hd40
    obtain ⟨k, hk, rfl, hnr, hs, ho⟩ := hrel
    obtain ⟨lp, lc, hlv⟩ := ho.slice
    rw [hdL_len] at hlv
    subst hlv
    have HS := Lib.hid hs
    have HO := Lib.hid ho
    have HNr := Lib.hid hnr
    clear hs ho hnr
    have hn40 := HN.out
    rcases Nat.lt_or_ge k n with g1 | g1
    · have hd : decide ((k : Int) < (n : Int)) = true := decide_eq_true (by omega)
      obtain ⟨ba, o, rfl, hlt, hall⟩ := HA.out.at (by omega)
      have HR := Lib.hid (range_below (hall k g1) HS.out.bel hlt)
      have HL := Lib.hid (hdL_succ F k)
      have HNew : Hid (Near (F k).v.steps → ∀ j, j < k + 1 → Near (F j).v.steps) := Lib.hid (fun h j hj => by
        rcases Nat.lt_or_eq_of_le (Nat.lt_succ_iff.1 hj) with e | rfl
        · exact HNr.out j e
        · exact h)
      clear hall
      have HL0 := HL
      generalize hF : F k = h at *
      obtain ⟨up, ok, v⟩ := h
      rw [show HC ⟨up, ok, v⟩ = #[.bool up, .bool ok, .int .i64 v.r.one, .int .i64 v.r.cls, .int .i64 v.r.two, .int .i64 v.r.id, .int .i64 v.steps, .int .i64 v.from_, .int .i64 v.port, .int .i64 v.at_] from rfl] at HR
      clear hF HL0
      by_cases h1 : v.steps < -1099511627776
      · go_wp2_with ((with_reducible refine at_loadH ?_); refine wpList_loadW rfl _ _ rfl _ _ rfl #[.bool up, .bool ok, .int .i64 v.r.one, .int .i64 v.r.cls, .int .i64 v.r.two, .int .i64 v.r.id, .int .i64 v.steps, .int .i64 v.from_, .int .i64 v.port, .int .i64 v.at_] _ HR.out Try.underlying37 rfl (by kernel_rfl) ?_)
        go_ret
        exact ⟨rfl, bAl HS.out.bel _⟩
      by_cases h2 : 1099511627776 < v.steps
      · go_wp2_with ((with_reducible refine at_loadH ?_); refine wpList_loadW rfl _ _ rfl _ _ rfl #[.bool up, .bool ok, .int .i64 v.r.one, .int .i64 v.r.cls, .int .i64 v.r.two, .int .i64 v.r.id, .int .i64 v.steps, .int .i64 v.from_, .int .i64 v.port, .int .i64 v.at_] _ HR.out Try.underlying37 rfl (by kernel_rfl) ?_)
        go_ret
        exact ⟨rfl, bAl HS.out.bel _⟩
      have HNw := Lib.hid (HNew.out (show Near v.steps from ⟨by omega, by omega⟩))
      have HRow := Lib.hid (fun W => row_ret v W)
      unfold VC at HRow
      have HB0 : Hid (SB w p ⟨up, ok, v⟩ wr.heap.size (.slice lp k lc) (hdL F k) (wr.alloc (.cells #[.bool up, .bool ok, .int .i64 v.r.one, .int .i64 v.r.cls, .int .i64 v.r.two, .int .i64 v.r.id, .int .i64 v.steps, .int .i64 v.from_, .int .i64 v.port, .int .i64 v.at_] 37))) := Lib.hid ⟨HS.out.below (bAl (bRef _) _), heap_alloc_new wr _, HO.out.below (bAl (bRef _) _)⟩
      go_upto_region 11 with ((with_reducible refine at_loadH ?_); refine wpList_loadW rfl _ _ rfl _ _ rfl #[.bool up, .bool ok, .int .i64 v.r.one, .int .i64 v.r.cls, .int .i64 v.r.two, .int .i64 v.r.id, .int .i64 v.steps, .int .i64 v.from_, .int .i64 v.port, .int .i64 v.at_] _ HR.out Try.underlying37 rfl (by kernel_rfl) ?_)
      generalize wr.alloc (.cells #[.bool up, .bool ok, .int .i64 v.r.one, .int .i64 v.r.cls, .int .i64 v.r.two, .int .i64 v.r.id, .int .i64 v.steps, .int .i64 v.from_, .int .i64 v.port, .int .i64 v.at_] 37) = W1 at *
      have h0 := HB0.out.drew.lb
      refine wp_region_held_drew (S := LB w p ⟨up, ok, v⟩ wr.heap.size) (by kernel_rfl) h0 (fun h0 => ?_)
      refine hTakeS (i := 0) (k := 35) (v := .slice lp k lc) rfl rfl (by kernel_rfl) (by kernel_rfl) (by kernel_rfl) (fun _ _ _ h => h) (yieldsIf_val (by rfl) (by intro W; go_simp)) h0 ?_
      simp only [List.setIfInBounds_toArray, List.set_cons_zero, List.set_cons_succ]
      refine hTakeS (i := 1) (k := 36) (v := .pointer (some ⟨wr.heap.size, 0, none⟩)) rfl rfl (by kernel_rfl) (by kernel_rfl) (by kernel_rfl) (fun _ _ _ h => h) (yieldsIf_val (by rfl) (by intro W; go_simp)) h0 ?_
      simp only [List.setIfInBounds_toArray, List.set_cons_zero, List.set_cons_succ]
      refine hTakeS (i := 2) (k := 37) (v := .bool up) rfl rfl (by kernel_rfl) (by kernel_rfl) (by kernel_rfl) (fun _ _ _ h => h) (.inl ⟨by rfl, fun W hW => by have c := hW.c0; go_simp⟩) h0 ?_
      simp only [List.setIfInBounds_toArray, List.set_cons_zero, List.set_cons_succ]
      refine hTakeS (i := 3) (k := 38) (v := .pointer (some ⟨wr.heap.size, 1, none⟩)) rfl rfl (by kernel_rfl) (by kernel_rfl) (by kernel_rfl) (fun _ _ _ h => h) (yieldsIf_val (by rfl) (by intro W; go_simp)) h0 ?_
      simp only [List.setIfInBounds_toArray, List.set_cons_zero, List.set_cons_succ]
      refine hTakeS (i := 4) (k := 39) (v := .bool ok) rfl rfl (by kernel_rfl) (by kernel_rfl) (by kernel_rfl) (fun _ _ _ h => h) (.inl ⟨by rfl, fun W hW => by have c := hW.c1; go_simp⟩) h0 ?_
      simp only [List.setIfInBounds_toArray, List.set_cons_zero, List.set_cons_succ]
      refine hTakeS (i := 5) (k := 40) (v := .pointer (some ⟨wr.heap.size, 2, none⟩)) rfl rfl (by kernel_rfl) (by kernel_rfl) (by kernel_rfl) (fun _ _ _ h => h) (yieldsIf_val (by rfl) (by intro W; go_simp)) h0 ?_
      simp only [List.setIfInBounds_toArray, List.set_cons_zero, List.set_cons_succ]
      refine hTakeS (i := 6) (k := 41) (v := .agg #[.int .i64 v.r.one, .int .i64 v.r.cls, .int .i64 v.r.two, .int .i64 v.r.id, .int .i64 v.steps, .int .i64 v.from_, .int .i64 v.port, .int .i64 v.at_]) rfl rfl (by kernel_rfl) (by kernel_rfl) (by kernel_rfl) (fun _ _ _ h => h) (.inl ⟨by rfl, fun W hW => loadOp _ _ rfl _ _ #[.int .i64 v.r.one, .int .i64 v.r.cls, .int .i64 v.r.two, .int .i64 v.r.id, .int .i64 v.steps, .int .i64 v.from_, .int .i64 v.port, .int .i64 v.at_] _ (range_of_row hW.box 2 _ (htail up ok v)) Try.underlying25 rfl (by kernel_rfl) rfl⟩) h0 ?_
      simp only [List.setIfInBounds_toArray, List.set_cons_zero, List.set_cons_succ]
      refine hCallR (i := 7) (k := 42) (by kernel_rfl) rfl rfl (by rfl) 16 #[.agg #[.int .i64 v.r.one, .int .i64 v.r.cls, .int .i64 v.r.two, .int .i64 v.r.id, .int .i64 v.steps, .int .i64 v.from_, .int .i64 v.port, .int .i64 v.at_]] (by go_simp) (HRow.out _) ?_
      rintro e W5 ⟨rfl, hb⟩
      have k5 := HB0.out.drew.below hb
      clear hb
      refine ⟨_, rfl, k5.lb, ?_⟩
      simp only [List.setIfInBounds_toArray, List.set_cons_zero, List.set_cons_succ]
      refine hTakeS (i := 8) (k := 43) (v := .agg #[.bool up, .bool ok, .int .i64 v.r.one, .int .i64 v.r.cls, .int .i64 v.r.two, .int .i64 v.r.id, .int .i64 v.steps, .int .i64 v.from_, .int .i64 v.port, .int .i64 v.at_]) rfl rfl (by kernel_rfl) (by kernel_rfl) (by kernel_rfl) (fun _ _ _ h => h) (yieldsIf_val (by rfl) (fun W => buildOp _ _ rfl #[.bool up, .bool ok, .int .i64 v.r.one, .int .i64 v.r.cls, .int .i64 v.r.two, .int .i64 v.r.id, .int .i64 v.steps, .int .i64 v.from_, .int .i64 v.port, .int .i64 v.at_] (by simp only [List.map_toArray, List.map_cons, List.map_nil]; kernel_rfl) W)) k5.lb ?_
      simp only [List.setIfInBounds_toArray, List.set_cons_zero, List.set_cons_succ]
      refine hOneS (i := 9) (k := 44) (v := .slice (some ⟨W5.heap.size, 0, none⟩) 1 1) (w' := W5.alloc (.cells #[.bool up, .bool ok, .int .i64 v.r.one, .int .i64 v.r.cls, .int .i64 v.r.two, .int .i64 v.r.id, .int .i64 v.steps, .int .i64 v.from_, .int .i64 v.port, .int .i64 v.at_] 39)) (by kernel_rfl) rfl rfl (by rfl) (bsK_op _ rfl rfl _) (k5.below (bAl (bRef _) _)).lb ?_
      simp only [List.setIfInBounds_toArray, List.set_cons_zero, List.set_cons_succ]
      refine hApp1 HC 10 72 39 35 Try.infoK Try.underlying35 rfl (by decide) (by decide) HC_size HC_one (i := 10) (k := 45) (by kernel_rfl) rfl rfl (by rfl) _ _ rfl w.heap.size _ (hdL F k) ⟨up, ok, v⟩ W5.heap.size rfl rfl (k5.row.below (bAl (bRef _) _)) (Nat.le_trans k5.law.bel.size (by simp)) (range_whole (heap_alloc_new W5 _)) (by rw [hdL_len]; omega) ?_
      intro v' W6 hr hg6
      have h6 : SB w p ⟨up, ok, v⟩ wr.heap.size v' (hdL F (k + 1)) W6 := (k5.below (bAl (bRef _) _)).grown HL.out hr hg6
      obtain ⟨lq, lcq, hvq⟩ := hr.slice
      clear hr hg6
      refine ⟨h6.lb, ?_⟩
      simp only [List.setIfInBounds_toArray, List.set_cons_zero, List.set_cons_succ]
      refine hTakeS (i := 11) (k := 5) (v := v') rfl rfl (by kernel_rfl) (by kernel_rfl) (by kernel_rfl) (fun _ _ _ h => h) (yieldsIf_val (by rfl) (by intro W; go_simp)) h6.lb ?_
      simp only [List.setIfInBounds_toArray, List.set_cons_zero, List.set_cons_succ]
      refine wpAnyH_done (by kernel_rfl) ?_ _
      have H6 := Lib.hid h6
      clear h6 k5 h0
      go_wp2_with fail
      go_roundw
      case rel => exact ⟨k + 1, by omega, by go_num, HNw.out, H6.out.law, H6.out.row⟩
      case measure => simp [intOf]; omega
    · obtain rfl : k = n := by omega
      have hd : decide ((k : Int) < (k : Int)) = false := decide_eq_false (by omega)
      have HRw := Lib.hid (fun W => row_ret (rootV p) W)
      rw [show VC (rootV p) = #[.int .i64 p.one, .int .i64 p.cls, .int .i64 p.two, .int .i64 p.id, .int .i64 0, .int .i64 0, .int .i64 0, .int .i64 0] from rfl] at HRw
      go_upto_region 15 with (first
        | ((with_reducible refine at_loadP ?_); refine wpList_loadW rfl _ _ rfl _ _ rfl (#[.int .i64 p.one, .int .i64 p.cls, .int .i64 p.two, .int .i64 p.id]) _ (range_whole HS.out.own) Try.underlying23 rfl (by kernel_rfl) ?_)
        | ((with_reducible refine at_loadP ?_); refine wpList_loadW rfl _ _ rfl _ _ rfl (#[.int .i64 p.one, .int .i64 p.cls, .int .i64 p.two, .int .i64 p.id]) _ (range_whole HC2.out.law.own) Try.underlying23 rfl (by kernel_rfl) ?_)
        | (go_at_call 18; (with_reducible refine (HCh.out _ HS.out.bel).mono ?_); rintro e w2 ⟨g, rfl, hg, hrow, hb⟩; have HC2 := Lib.hid (LawC.start (c := cc) HS.out hb hrow); have HO2 := Lib.hid ((HO.out.below hb).below (bAl (bRef w2) (.cells (VC cc) 25))); clear hb hrow hg)
        | (go_at_call 16; (with_reducible refine (HRw.out _).mono ?_); rintro e w3 ⟨rfl, hb⟩; have HC3 := Lib.hid (HC2.out.below hb); have HO3 := Lib.hid (HO2.out.below hb); clear hb)
        | (go_at_call 19; (with_reducible refine (HCr.out _ _ HNr.out HO3.out).mono ?_); rintro e w4 ⟨ov, rfl, how, hb⟩; have HC4 := Lib.hid (HC3.out.below hb); have HOw := Lib.hid how; have HLe := Lib.hid HC3.out.law.bel.size; clear hb how))
      have HB : Hid (CB w p cc w2.heap.size g l w4.heap.size ov (w4.alloc (.cells (VC cc) 30))) := Lib.hid ⟨HC4.out.below (bAl (bRef _) _), heap_alloc_new w4 _, (HOw.out.wide HLe.out).below (bAl (bRef _) _)⟩
      obtain ⟨op, oc, hov⟩ := HOw.out.slice
      rw [HLn.out] at hov
      subst hov
      rw [show VC cc = #[.int .i64 cc.r.one, .int .i64 cc.r.cls, .int .i64 cc.r.two, .int .i64 cc.r.id, .int .i64 cc.steps, .int .i64 cc.from_, .int .i64 cc.port, .int .i64 cc.at_] from rfl] at HB
      generalize w4.alloc (.cells #[.int .i64 cc.r.one, .int .i64 cc.r.cls, .int .i64 cc.r.two, .int .i64 cc.r.id, .int .i64 cc.steps, .int .i64 cc.from_, .int .i64 cc.port, .int .i64 cc.at_] 30) = W4 at *
      generalize w2.heap.size = b at *
      generalize w4.heap.size = b2 at *
      clear HC2 HC3 HC4 HO2 HO3 HOw HLe HS HO HNr HRw HCh HCr
      have HRow := Lib.hid (fun W => row_ret cc W)
      rw [show VC cc = #[.int .i64 cc.r.one, .int .i64 cc.r.cls, .int .i64 cc.r.two, .int .i64 cc.r.id, .int .i64 cc.steps, .int .i64 cc.from_, .int .i64 cc.port, .int .i64 cc.at_] from rfl] at HRow
      have hne := fun W => run_neRs cc.r.one cc.r.cls cc.r.two cc.r.id cc.steps cc.from_ cc.port cc.at_ W
      have hnn : ((k : Int) != (k : Int)) = false := by simp
      have h0 := HB.out.drew
      refine wp_region_held_drew (S := CB w p cc b g l b2 (.slice op k oc)) (by kernel_rfl) h0 (fun h0 => ?_)
      refine hTakeS (i := 0) (k := 61) (v := .agg #[.int .i64 cc.r.one, .int .i64 cc.r.cls, .int .i64 cc.r.two, .int .i64 cc.r.id, .int .i64 cc.steps, .int .i64 cc.from_, .int .i64 cc.port, .int .i64 cc.at_]) rfl rfl (by kernel_rfl) (by kernel_rfl) (by kernel_rfl) (fun _ _ _ h => h) (.inl ⟨by rfl, fun W hW => loadOp _ _ rfl _ _ #[.int .i64 cc.r.one, .int .i64 cc.r.cls, .int .i64 cc.r.two, .int .i64 cc.r.id, .int .i64 cc.steps, .int .i64 cc.from_, .int .i64 cc.port, .int .i64 cc.at_] _ (range_whole hW.lawc.chn) Try.underlying25 rfl (by kernel_rfl) rfl⟩) h0 ?_
      simp only [List.setIfInBounds_toArray, List.set_cons_zero, List.set_cons_succ]
      refine hTakeS (i := 2) (k := 63) (v := .agg #[.int .i64 cc.r.one, .int .i64 cc.r.cls, .int .i64 cc.r.two, .int .i64 cc.r.id, .int .i64 cc.steps, .int .i64 cc.from_, .int .i64 cc.port, .int .i64 cc.at_]) rfl rfl (by kernel_rfl) (by kernel_rfl) (by kernel_rfl) (fun _ _ _ h => h) (.inl ⟨by rfl, fun W hW => loadOp _ _ rfl _ _ #[.int .i64 cc.r.one, .int .i64 cc.r.cls, .int .i64 cc.r.two, .int .i64 cc.r.id, .int .i64 cc.steps, .int .i64 cc.from_, .int .i64 cc.port, .int .i64 cc.at_] _ (range_whole hW.rbox) Try.underlying30 rfl (by kernel_rfl) rfl⟩) h0 ?_
      simp only [List.setIfInBounds_toArray, List.set_cons_zero, List.set_cons_succ]
      refine hCallR (i := 1) (k := 62) (by kernel_rfl) rfl rfl (by rfl) 16 #[.agg #[.int .i64 cc.r.one, .int .i64 cc.r.cls, .int .i64 cc.r.two, .int .i64 cc.r.id, .int .i64 cc.steps, .int .i64 cc.from_, .int .i64 cc.port, .int .i64 cc.at_]] (by go_simp) (HRow.out _) ?_
      rintro e W5 ⟨rfl, hb⟩
      have h5 := h0.below hb
      clear hb
      refine ⟨_, rfl, h5, ?_⟩
      simp only [List.setIfInBounds_toArray, List.set_cons_zero, List.set_cons_succ]
      refine hTakeS (i := 3) (k := 64) (v := .bool false) rfl rfl (by kernel_rfl) (by kernel_rfl) (by kernel_rfl) (fun _ _ _ h => h) (yieldsIf_val (by rfl) (by intro W; go_simp)) h5 ?_
      simp only [List.setIfInBounds_toArray, List.set_cons_zero, List.set_cons_succ]
      refine hTakeS (i := 4) (k := 65) (v := .bool false) rfl rfl (by kernel_rfl) (by kernel_rfl) (by kernel_rfl) (fun _ _ _ h => h) (yieldsIf_val (by rfl) (by intro W; go_simp)) h5 ?_
      simp only [List.setIfInBounds_toArray, List.set_cons_zero, List.set_cons_succ]
      refine hTakeS (i := 5) (k := 66) (v := .slice (some ⟨g, 0, none⟩) k k) rfl rfl (by kernel_rfl) (by kernel_rfl) (by kernel_rfl) (fun _ _ _ h => h) (yieldsIf_val (by rfl) (by intro W; go_simp)) h5 ?_
      simp only [List.setIfInBounds_toArray, List.set_cons_zero, List.set_cons_succ]
      refine hTakeS (i := 6) (k := 67) (v := .int .i64 (k : Int)) rfl rfl (by kernel_rfl) (by kernel_rfl) (by kernel_rfl) (fun _ _ _ h => h) (yieldsIf_val (by rfl) (by intro W; go_simp)) h5 ?_
      simp only [List.setIfInBounds_toArray, List.set_cons_zero, List.set_cons_succ]
      refine hTakeS (i := 7) (k := 68) (v := .slice op k oc) rfl rfl (by kernel_rfl) (by kernel_rfl) (by kernel_rfl) (fun _ _ _ h => h) (yieldsIf_val (by rfl) (by intro W; go_simp)) h5 ?_
      simp only [List.setIfInBounds_toArray, List.set_cons_zero, List.set_cons_succ]
      refine hTakeS (i := 8) (k := 69) (v := .int .i64 (k : Int)) rfl rfl (by kernel_rfl) (by kernel_rfl) (by kernel_rfl) (fun _ _ _ h => h) (yieldsIf_val (by rfl) (by intro W; go_simp)) h5 ?_
      simp only [List.setIfInBounds_toArray, List.set_cons_zero, List.set_cons_succ]
      refine hTakeS (i := 9) (k := 70) (v := .bool false) rfl rfl (by kernel_rfl) (by kernel_rfl) (by kernel_rfl) (fun _ _ _ h => h) (yieldsIf_val (by rfl) (by intro W; go_simp)) h5 ?_
      simp only [List.setIfInBounds_toArray, List.set_cons_zero, List.set_cons_succ]
      refine hTakeS (i := 10) (k := 71) (v := .bool false) rfl rfl (by kernel_rfl) (by kernel_rfl) (by kernel_rfl) (fun _ _ _ h => h) (yieldsIf_val (by rfl) (by intro W; go_simp)) h5 ?_
      simp only [List.setIfInBounds_toArray, List.set_cons_zero, List.set_cons_succ]
      refine wpAnyH_done (by kernel_rfl) ?_ _
      have HB5 := Lib.hid h5
      clear h5 h0 hne HB
      go_wp2_with fail
      go_loopw [74] (fun iv wr => ChcRel2 k W5 iv wr) (fun iv _ => k - (intOf iv).toNat)
      case atStart => exact ⟨0, by omega, rfl, 0, rfl⟩
      case round =>
        obtain ⟨i, hi, rfl, m, rfl⟩ := hrel
        have hn40 := HN.out
        have hbd := HB5.out.lawc.law.bel
        rcases Nat.lt_or_ge i k with g1 | g1
        · have hd1 : decide ((i : Int) < (k : Int)) = true := decide_eq_true (by omega)
          have hir : IntKind.i64.wrap (i : Int) = (i : Int) := by rw [IntKind.wrap_i64]; omega
          obtain ⟨x, hx⟩ : ∃ x, l[i]? = some x := ⟨_, List.getElem?_eq_getElem (by rw [HLn.out]; exact g1)⟩
          have hI : (IC l)[i]? = some (.int .i64 x) := by unfold IC; simp [hx]
          have c1 : W5.cell? ⟨g, i, none⟩ = some (.int .i64 x) := (cell_of_row _ _ i _ _ _ HB5.out.lawc.row).trans hI
          obtain ⟨gg, cur, rfl, _, _, hat⟩ := HB5.out.own.at C1_size (by rw [HLn.out]; omega)
          have c2 : W5.cell? ⟨gg, i, none⟩ = some (.int .i64 x) := by have := hat i x hx 0 _ rfl; rwa [Nat.mul_one] at this
          clear hI hx hat
          have hxx : (x != x) = false := by simp
          clear hbd
          go_upto_region 20 with (fail)
          go_quiet (fail)
          go_wp2_with fail
          go_roundw
          case rel => exact ⟨i + 1, by omega, by go_num, _, rfl⟩
          case measure => simp [intOf]; omega
        · obtain rfl : i = k := by omega
          have HBD := Lib.hid (bDr hbd m)
          clear hbd
          go_wp2_with fail
          go_ret
          exact ⟨rfl, HBD.out⟩


theorem bestChoose_holds : Rows.BestChooseSaid := bestChoose_of (fun x0 x1 x2 x3 v n w _ _ _ _ h => by
  obtain ⟨F, hF⟩ := harg_of h
  exact bestChoose_any ⟨x0, x1, x2, x3⟩ hF)

end Go.Proofs.Ytihddpoaemhlnaa
