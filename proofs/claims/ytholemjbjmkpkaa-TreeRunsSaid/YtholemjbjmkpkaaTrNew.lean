/- Package tree: New. -/
import Derived.Test.YtholemjbjmkpkaaTrUp
namespace Go.Proofs.Ytholemjbjmkpkaa
open Go.RowKit Go.Joins Go.Deep

/-- An Announce of the own clock. -/
def annM (dom : Int) (p : Pri) : Mg := ⟨11, dom, 0, 0, 0, 0, 0, 0, 0, 0, p.one, p.cls, p.two, p.id, 0, []⟩
def Pri.right (p : Pri) : Bool := winB 281474976710655 [0, 0, p.id] && winB 255 [p.one, p.cls, p.two, 0]
theorem annM_chk (dom : Int) (p : Pri) : (annM dom p).chk = if winB 127 [dom] && p.right then 0 else 1 := by
  unfold Mg.chk annM Pri.right
  dsimp only
  rw [show kindB 11 = true from rfl, if_pos rfl]
  rw [show winB 65535 [0, 0, 0] = true from rfl, show Mg.besB (⟨11, dom, 0, 0, 0, 0, 0, 0, 0, 0, p.one, p.cls, p.two, p.id, 0, []⟩ : Mg) = false from rfl]
  cases winB 127 [dom] <;> cases winB 281474976710655 [0, 0, p.id] <;> cases winB 255 [p.one, p.cls, p.two, 0] <;> rfl
def newB (dom : Int) (p : Pri) (ports most : Int) : Bool := (winB 127 [dom] && p.right) && (decide (0 ≤ ports ∧ ports ≤ 8) && decide (1 ≤ most ∧ most ≤ 1099511627776))
def newT (dom : Int) (p : Pri) (n : Nat) (most : Int) : Ts := ⟨dom, p, most, n, fun _ => Kp.fresh false⟩
theorem Try.infoQ : (Try.prog.info? 91).map (fun i => (i.zero, i.size, i.bytes)) = some (some (.agg (KC (Kp.fresh false) (.slice none 0 0))), 12, 104) := by kernel_rfl
theorem Try.builtAnn (dom : Int) (p : Pri) : Try.prog.built 58 [(0, .int .i64 11), (1, .int .i64 dom), (10, .agg #[.int .i64 p.one, .int .i64 p.cls, .int .i64 p.two, .int .i64 p.id])] = some #[.int .i64 11, .int .i64 dom, .int .i64 0, .int .i64 0, .int .i64 0, .int .i64 0, .int .i64 0, .int .i64 0, .int .i64 0, .int .i64 0, .int .i64 p.one, .int .i64 p.cls, .int .i64 p.two, .int .i64 p.id, .int .i64 0, .slice none 0 0] := by kernel_rfl
theorem made_at (c : Array Value) (n : Nat) (h12 : c.size = 12) (k j : Nat) (hk : k < n) (x : Value) (hj : c.toList[j]? = some x) : (madeCells c (n * 12))[k * 12 + j]? = some x := by
  have hjl : j < 12 := by have := (List.getElem?_eq_some_iff.1 hj).1; rwa [Array.length_toList, h12] at this
  have hle : (k + 1) * 12 ≤ n * 12 := Nat.mul_le_mul_right 12 hk
  have hlt : k * 12 + j < n * 12 := by omega
  unfold madeCells
  rw [Array.getElem?_map]
  simp only [Array.getElem?_range, hlt, if_true, Option.map_some, h12]
  rw [show (k * 12 + j) % 12 = j by omega]
  have h1 : c[j]? = some x := by simpa using hj
  rw [getElem!_def, h1]
theorem make_ports (n : Nat) (hn : n ≤ 8) (w : World) : ∃ cs, (Instr.makeSlice 87 (.int .i64 (n : Int)) (.int .i64 (n : Int))).run Try.prog w = .ok (.slice (some ⟨w.heap.size, 0, none⟩) n n) (w.alloc (.cells cs 91)) ∧ cs.size = n * 12 ∧ ∀ k, k < n → ∀ j x, (KC (Kp.fresh false) (.slice none 0 0)).toList[j]? = some x → cs[k * 12 + j]? = some x := by
  obtain ⟨i0, hi, hz0, hz1, hz2⟩ := Go.info_parts Try.infoQ
  have hr := run_make (P := Try.prog) w 87 91 i0 _ Try.underlying87 hi hz0 .i64 .i64 n n (by omega) (by omega) (by rw [hz2]; omega) (by omega)
  simp only [Int.toNat_natCast] at hr
  rw [hz1] at hr
  exact ⟨_, hr, by simp [madeCells], fun k hk j x hj => made_at _ n rfl k j hk x hj⟩
/-- The own clock's box. -/
structure NS (w : World) (p : Pri) (W : World) : Prop where
  bel : Below w.heap.size w W
  box : W.heap[w.heap.size]? = some (.cells #[.int .i64 p.one, .int .i64 p.cls, .int .i64 p.two, .int .i64 p.id] 23 (0, 0))
theorem NS.below {w : World} {p : Pri} {W W' : World} (h : NS w p W) (hb : Below W.heap.size W W') : NS w p W' := ⟨bTr h.bel hb, (hb.block _ (lt_of_heap h.box)).trans h.box⟩
theorem boxT {a : Act} {o : Oper} {W : World} (s : Operand) (ho : o.op = .box 89 s) {d0 d1 d2 d3 d4 d5 : Int} {v : Option Addr} {l c : Nat} (hs : a.eval s = .agg #[.int .i64 d0, .int .i64 d1, .int .i64 d2, .int .i64 d3, .int .i64 d4, .int .i64 d5, .slice v l c]) {g : Nat} (hg : g = W.heap.size) :
    (execOp a.eval o).run Try.prog W = .ok (.value (.pointer (some ⟨g, 0, none⟩))) (W.alloc (.cells #[.int .i64 d0, .int .i64 d1, .int .i64 d2, .int .i64 d3, .int .i64 d4, .int .i64 d5, .slice v l c] 89)) := by
  subst hg
  unfold execOp
  simp only [ho, hs]
  kernel_rfl
theorem makeP {a : Act} {o : Oper} {W : World} (s : Operand) (ho : o.op = .makeSlice 87 s s) {n : Nat} (hs : a.eval s = .int .i64 (n : Int)) {v : Value} {W' : World} (hr : (Instr.makeSlice 87 (.int .i64 (n : Int)) (.int .i64 (n : Int))).run Try.prog W = .ok v W') : (execOp a.eval o).run Try.prog W = .ok (.value v) W' := by
  unfold execOp
  simp only [ho, hs]
  rw [Sem.run_bind, hr]
  rfl
set_option maxHeartbeats 1000000 in
theorem new_no (dom : Int) (p : Pri) (ports most : Int) (w : World) (h : newB dom p ports most = false) (hd : In64 dom) (hp : In64 p.one ∧ In64 p.cls ∧ In64 p.two ∧ In64 p.id) : Calls Try.prog 22 #[.int .i64 dom, .agg (PC p), .int .i64 ports, .int .i64 most] w fun e w' => e = .returned (.tuple #[.pointer none, .int .i64 1]) ∧ Below w.heap.size w w' := by
  obtain ⟨p1, p2, p3, p4⟩ := hp
  have z0 : In64 0 := ⟨by decide, by decide⟩
  have HC := Lib.hid (fun W => check_any (annM dom p) (.slice none 0 0) W ⟨⟨by show (-9223372036854775808 : Int) ≤ 11; omega, by show (11 : Int) < 9223372036854775808; omega⟩, hd, z0, z0, z0, z0, z0, z0, z0, z0, p1, p2, p3, p4, z0, fun x hx => by simp [annM] at hx⟩ ⟨fun x hx => by simp [annM] at hx, .inl ⟨rfl, none, 0, rfl, fun _ => rfl⟩⟩ (by simp [annM]))
  rw [annM_chk] at HC
  rw [show MV (annM dom p) (.slice none 0 0) = .agg #[.int .i64 11, .int .i64 dom, .int .i64 0, .int .i64 0, .int .i64 0, .int .i64 0, .int .i64 0, .int .i64 0, .int .i64 0, .int .i64 0, .int .i64 p.one, .int .i64 p.cls, .int .i64 p.two, .int .i64 p.id, .int .i64 0, .slice none 0 0] from rfl] at HC
  clear hd p1 p2 p3 p4 z0
  unfold newB at h
  unfold PC
  cases hr : (winB 127 [dom] && p.right) with
  | false =>
    rw [hr, if_neg (by decide)] at HC
    clear h hr
    go_enter Try.func22, Try.ntmps22
    go_wp2_with (first
      | ((with_reducible refine at_buildM ?_); refine wpList_buildG rfl _ _ rfl #[.int .i64 11, .int .i64 dom, .int .i64 0, .int .i64 0, .int .i64 0, .int .i64 0, .int .i64 0, .int .i64 0, .int .i64 0, .int .i64 0, .int .i64 p.one, .int .i64 p.cls, .int .i64 p.two, .int .i64 p.id, .int .i64 0, .slice none 0 0] (by simp only [List.map_toArray, List.map_cons, List.map_nil]; exact Try.builtAnn dom p) ?_)
      | ((with_reducible refine at_storeM ?_); refine wpList_storeNW rfl _ _ _ rfl (w.heap.size + 1) (by simp) #[.int .i64 11, .int .i64 dom, .int .i64 0, .int .i64 0, .int .i64 0, .int .i64 0, .int .i64 0, .int .i64 0, .int .i64 0, .int .i64 0, .int .i64 p.one, .int .i64 p.cls, .int .i64 p.two, .int .i64 p.id, .int .i64 0, .slice none 0 0] _ _ rfl rfl (by simp [Value.oneCell']) (by kernel_rfl) rfl ?_)
      | ((with_reducible refine at_loadM ?_); refine wpList_loadM rfl _ rfl (w.heap.size + 1) rfl #[.int .i64 11, .int .i64 dom, .int .i64 0, .int .i64 0, .int .i64 0, .int .i64 0, .int .i64 0, .int .i64 0, .int .i64 0, .int .i64 0, .int .i64 p.one, .int .i64 p.cls, .int .i64 p.two, .int .i64 p.id, .int .i64 0, .slice none 0 0] _ (heap_alloc2_new w _ _) rfl ?_)
      | (go_at_call 28; (with_reducible refine (HC.out _).mono ?_); rintro e w1 ⟨rfl, hb⟩; have HB := Lib.hid hb; clear hb))
    go_ret2
    exact ⟨rfl, bTr (bAl (bAl (bRef w) _) _) HB.out⟩
  | true =>
    rw [hr, if_pos rfl] at HC
    rw [hr, Bool.true_and] at h
    simp only [Bool.and_eq_false_iff, decide_eq_false_iff_not] at h
    clear hr
    have hcase : ports < 0 ∨ (¬ ports < 0 ∧ 8 < ports) ∨ (¬ ports < 0 ∧ ¬ 8 < ports ∧ most < 1) ∨ (¬ ports < 0 ∧ ¬ 8 < ports ∧ ¬ most < 1 ∧ 1099511627776 < most) := by omega
    clear h
    rcases hcase with h1 | ⟨h1, h2⟩ | ⟨h1, h2, h3⟩ | ⟨h1, h2, h3, h4⟩
    all_goals
      go_enter Try.func22, Try.ntmps22
      go_wp2_with (first
      | ((with_reducible refine at_buildM ?_); refine wpList_buildG rfl _ _ rfl #[.int .i64 11, .int .i64 dom, .int .i64 0, .int .i64 0, .int .i64 0, .int .i64 0, .int .i64 0, .int .i64 0, .int .i64 0, .int .i64 0, .int .i64 p.one, .int .i64 p.cls, .int .i64 p.two, .int .i64 p.id, .int .i64 0, .slice none 0 0] (by simp only [List.map_toArray, List.map_cons, List.map_nil]; exact Try.builtAnn dom p) ?_)
      | ((with_reducible refine at_storeM ?_); refine wpList_storeNW rfl _ _ _ rfl (w.heap.size + 1) (by simp) #[.int .i64 11, .int .i64 dom, .int .i64 0, .int .i64 0, .int .i64 0, .int .i64 0, .int .i64 0, .int .i64 0, .int .i64 0, .int .i64 0, .int .i64 p.one, .int .i64 p.cls, .int .i64 p.two, .int .i64 p.id, .int .i64 0, .slice none 0 0] _ _ rfl rfl (by simp [Value.oneCell']) (by kernel_rfl) rfl ?_)
      | ((with_reducible refine at_loadM ?_); refine wpList_loadM rfl _ rfl (w.heap.size + 1) rfl #[.int .i64 11, .int .i64 dom, .int .i64 0, .int .i64 0, .int .i64 0, .int .i64 0, .int .i64 0, .int .i64 0, .int .i64 0, .int .i64 0, .int .i64 p.one, .int .i64 p.cls, .int .i64 p.two, .int .i64 p.id, .int .i64 0, .slice none 0 0] _ (heap_alloc2_new w _ _) rfl ?_)
      | (go_at_call 28; (with_reducible refine (HC.out _).mono ?_); rintro e w1 ⟨rfl, hb⟩; have HB := Lib.hid hb; clear hb))
      go_ret2
      exact ⟨rfl, bTr (bAl (bAl (bRef w) _) _) HB.out⟩
set_option maxHeartbeats 1000000 in
theorem new_ok (dom : Int) (p : Pri) (n : Nat) (most : Int) (w : World) (h : newB dom p n most = true) (hd : In64 dom) (hp : In64 p.one ∧ In64 p.cls ∧ In64 p.two ∧ In64 p.id) : Calls Try.prog 22 #[.int .i64 dom, .agg (PC p), .int .i64 (n : Int), .int .i64 most] w fun e w' => ∃ b g, e = .returned (.tuple #[.pointer (some ⟨b, 0, none⟩), .int .i64 0]) ∧ Tr w' b g (newT dom p n most) ∧ w.heap.size ≤ b ∧ w.heap.size ≤ g ∧ Below w.heap.size w w' := by
  obtain ⟨p1, p2, p3, p4⟩ := hp
  have z0 : In64 0 := ⟨by decide, by decide⟩
  have HC := Lib.hid (fun W => check_any (annM dom p) (.slice none 0 0) W ⟨⟨by show (-9223372036854775808 : Int) ≤ 11; omega, by show (11 : Int) < 9223372036854775808; omega⟩, hd, z0, z0, z0, z0, z0, z0, z0, z0, p1, p2, p3, p4, z0, fun x hx => by simp [annM] at hx⟩ ⟨fun x hx => by simp [annM] at hx, .inl ⟨rfl, none, 0, rfl, fun _ => rfl⟩⟩ (by simp [annM]))
  rw [annM_chk] at HC
  rw [show MV (annM dom p) (.slice none 0 0) = .agg #[.int .i64 11, .int .i64 dom, .int .i64 0, .int .i64 0, .int .i64 0, .int .i64 0, .int .i64 0, .int .i64 0, .int .i64 0, .int .i64 0, .int .i64 p.one, .int .i64 p.cls, .int .i64 p.two, .int .i64 p.id, .int .i64 0, .slice none 0 0] from rfl] at HC
  unfold newB at h
  simp only [Bool.and_eq_true, decide_eq_true_eq] at h
  obtain ⟨⟨h1, h2⟩, ⟨_, h3⟩, h4, h5⟩ := h
  rw [h1, h2, Bool.and_self, if_pos rfl] at HC
  have hn8 : n ≤ 8 := by omega
  have g1 : ¬ (n : Int) < 0 := by omega
  have g2 : ¬ (8 : Int) < (n : Int) := by omega
  have g3 : ¬ most < 1 := by omega
  have g4 : ¬ (1099511627776 : Int) < most := by omega
  have HMk := Lib.hid (fun W => make_ports n hn8 W)
  clear hd p1 p2 p3 p4 z0 h1 h2 h3 h4 h5
  unfold PC
  have HN0 : Hid (NS w p ((w.alloc (.cells #[.int .i64 p.one, .int .i64 p.cls, .int .i64 p.two, .int .i64 p.id] 23)).alloc (.cells #[.int .i64 11, .int .i64 dom, .int .i64 0, .int .i64 0, .int .i64 0, .int .i64 0, .int .i64 0, .int .i64 0, .int .i64 0, .int .i64 0, .int .i64 p.one, .int .i64 p.cls, .int .i64 p.two, .int .i64 p.id, .int .i64 0, .slice none 0 0] 58))) := Lib.hid ⟨bAl (bAl (bRef w) _) _, ((bAl (bRef _) _).block _ (by simp)).trans (heap_alloc_new w _)⟩
  go_enter Try.func22, Try.ntmps22
  go_upto_region 4 with (first
      | ((with_reducible refine at_buildM ?_); refine wpList_buildG rfl _ _ rfl #[.int .i64 11, .int .i64 dom, .int .i64 0, .int .i64 0, .int .i64 0, .int .i64 0, .int .i64 0, .int .i64 0, .int .i64 0, .int .i64 0, .int .i64 p.one, .int .i64 p.cls, .int .i64 p.two, .int .i64 p.id, .int .i64 0, .slice none 0 0] (by simp only [List.map_toArray, List.map_cons, List.map_nil]; exact Try.builtAnn dom p) ?_)
      | ((with_reducible refine at_storeM ?_); refine wpList_storeNW rfl _ _ _ rfl (w.heap.size + 1) (by simp) #[.int .i64 11, .int .i64 dom, .int .i64 0, .int .i64 0, .int .i64 0, .int .i64 0, .int .i64 0, .int .i64 0, .int .i64 0, .int .i64 0, .int .i64 p.one, .int .i64 p.cls, .int .i64 p.two, .int .i64 p.id, .int .i64 0, .slice none 0 0] _ _ rfl rfl (by simp [Value.oneCell']) (by kernel_rfl) rfl ?_)
      | ((with_reducible refine at_loadM ?_); refine wpList_loadM rfl _ rfl (w.heap.size + 1) rfl #[.int .i64 11, .int .i64 dom, .int .i64 0, .int .i64 0, .int .i64 0, .int .i64 0, .int .i64 0, .int .i64 0, .int .i64 0, .int .i64 0, .int .i64 p.one, .int .i64 p.cls, .int .i64 p.two, .int .i64 p.id, .int .i64 0, .slice none 0 0] _ (heap_alloc2_new w _ _) rfl ?_)
      | (go_at_call 28; (with_reducible refine (HC.out _).mono ?_); rintro e w1 ⟨rfl, hb⟩; have HN1 := Lib.hid (HN0.out.below hb); clear hb))
  obtain ⟨cs, hmk, hcs, hat⟩ := HMk.out w1.drew
  rw [show w1.drew.heap.size = w1.heap.size from rfl] at hmk
  have HAt := Lib.hid hat
  clear hat
  have h0 : NS w p w1.drew := HN1.out.below ⟨rfl, rfl, rfl, Nat.le_refl _, fun _ _ => rfl⟩
  refine wp_region_held_drew (S := NS w p) (by kernel_rfl) h0 (fun h0 => ?_)
  refine hTakeS (i := 0) (k := 33) (v := .int .i64 dom) rfl rfl (by kernel_rfl) (by kernel_rfl) (by kernel_rfl) (fun _ _ _ h => h) (yieldsIf_val (by rfl) (by intro W; go_simp)) h0 ?_
  simp only [List.setIfInBounds_toArray, List.set_cons_zero, List.set_cons_succ]
  refine hTakeS (i := 1) (k := 34) (v := .agg #[.int .i64 p.one, .int .i64 p.cls, .int .i64 p.two, .int .i64 p.id]) rfl rfl (by kernel_rfl) (by kernel_rfl) (by kernel_rfl) (fun _ _ _ h => h) (.inl ⟨by rfl, fun W hW => loadOp _ _ rfl _ _ #[.int .i64 p.one, .int .i64 p.cls, .int .i64 p.two, .int .i64 p.id] _ (range_whole hW.box) Try.underlying23 rfl (by kernel_rfl) rfl⟩) h0 ?_
  simp only [List.setIfInBounds_toArray, List.set_cons_zero, List.set_cons_succ]
  refine hTakeS (i := 2) (k := 35) (v := .int .i64 most) rfl rfl (by kernel_rfl) (by kernel_rfl) (by kernel_rfl) (fun _ _ _ h => h) (yieldsIf_val (by rfl) (by intro W; go_simp)) h0 ?_
  simp only [List.setIfInBounds_toArray, List.set_cons_zero, List.set_cons_succ]
  refine hTakeS (i := 3) (k := 36) (v := .int .i64 (n : Int)) rfl rfl (by kernel_rfl) (by kernel_rfl) (by kernel_rfl) (fun _ _ _ h => h) (yieldsIf_val (by rfl) (by intro W; go_simp)) h0 ?_
  simp only [List.setIfInBounds_toArray, List.set_cons_zero, List.set_cons_succ]
  refine hOneS (i := 4) (k := 37) (v := .slice (some ⟨w1.heap.size, 0, none⟩) n n) (by kernel_rfl) rfl rfl (by rfl) (makeP _ rfl rfl hmk) (h0.below (bAl (bRef w1.drew) _)) ?_
  simp only [List.setIfInBounds_toArray, List.set_cons_zero, List.set_cons_succ]
  have k4 := h0.below (bAl (bRef w1.drew) (.cells cs 91))
  refine hTakeS (i := 5) (k := 38) (v := .agg #[.int .i64 dom, .int .i64 p.one, .int .i64 p.cls, .int .i64 p.two, .int .i64 p.id, .int .i64 most, .slice (some ⟨w1.heap.size, 0, none⟩) n n]) rfl rfl (by kernel_rfl) (by kernel_rfl) (by kernel_rfl) (fun _ _ _ h => h) (yieldsIf_val (by rfl) (fun W => buildOp _ _ rfl #[.int .i64 dom, .int .i64 p.one, .int .i64 p.cls, .int .i64 p.two, .int .i64 p.id, .int .i64 most, .slice (some ⟨w1.heap.size, 0, none⟩) n n] (by simp only [List.map_toArray, List.map_cons, List.map_nil]; kernel_rfl) W)) k4 ?_
  simp only [List.setIfInBounds_toArray, List.set_cons_zero, List.set_cons_succ]
  refine hOneS (i := 6) (k := 39) (v := .pointer (some ⟨w1.heap.size + 1, 0, none⟩)) (w' := (w1.drew.alloc (.cells cs 91)).alloc (.cells #[.int .i64 dom, .int .i64 p.one, .int .i64 p.cls, .int .i64 p.two, .int .i64 p.id, .int .i64 most, .slice (some ⟨w1.heap.size, 0, none⟩) n n] 89)) (by kernel_rfl) rfl rfl (by rfl) (boxT _ rfl rfl (by show _ = (w1.drew.heap.push _).size; rw [Array.size_push]; rfl)) (k4.below (bAl (bRef _) _)) ?_
  simp only [List.setIfInBounds_toArray, List.set_cons_zero, List.set_cons_succ]
  have k6 := k4.below (bAl (bRef (w1.drew.alloc (.cells cs 91))) (.cells #[.int .i64 dom, .int .i64 p.one, .int .i64 p.cls, .int .i64 p.two, .int .i64 p.id, .int .i64 most, .slice (some ⟨w1.heap.size, 0, none⟩) n n] 89))
  refine hTakeS (i := 7) (k := 8) (v := .pointer (some ⟨w1.heap.size + 1, 0, none⟩)) rfl rfl (by kernel_rfl) (by kernel_rfl) (by kernel_rfl) (fun _ _ _ h => h) (yieldsIf_val (by rfl) (by intro W; go_simp)) k6 ?_
  simp only [List.setIfInBounds_toArray, List.set_cons_zero, List.set_cons_succ]
  refine hTakeS (i := 8) (k := 9) (v := .int .i64 0) rfl rfl (by kernel_rfl) (by kernel_rfl) (by kernel_rfl) (fun _ _ _ h => h) (yieldsIf_val (by rfl) (by intro W; go_simp)) k6 ?_
  simp only [List.setIfInBounds_toArray, List.set_cons_zero, List.set_cons_succ]
  refine wpAnyH_done (by kernel_rfl) ?_ _
  have hr0 : ((w1.drew.alloc (.cells cs 91)).alloc (.cells #[.int .i64 dom, .int .i64 p.one, .int .i64 p.cls, .int .i64 p.two, .int .i64 p.id, .int .i64 most, .slice (some ⟨w1.heap.size, 0, none⟩) n n] 89)).heap[w1.heap.size]? = some (.cells cs 91 (0, 0)) := ((bAl (bRef _) _).block _ (by show _ < (w1.drew.heap.push _).size; rw [Array.size_push]; exact Nat.lt_succ_self _)).trans (heap_alloc_new w1.drew _)
  have hr1 : ((w1.drew.alloc (.cells cs 91)).alloc (.cells #[.int .i64 dom, .int .i64 p.one, .int .i64 p.cls, .int .i64 p.two, .int .i64 p.id, .int .i64 most, .slice (some ⟨w1.heap.size, 0, none⟩) n n] 89)).heap[w1.heap.size + 1]? = some (.cells #[.int .i64 dom, .int .i64 p.one, .int .i64 p.cls, .int .i64 p.two, .int .i64 p.id, .int .i64 most, .slice (some ⟨w1.heap.size, 0, none⟩) n n] 89 (0, 0)) := heap_alloc2_new w1.drew _ _
  have HR0 := Lib.hid hr0
  have HR1 := Lib.hid hr1
  have HB6 := Lib.hid k6.bel
  have hsz := HN1.out.bel.size
  clear hr0 hr1 k4 k6 h0 hmk
  go_wp2_with fail
  go_ret2
  exact ⟨w1.heap.size + 1, w1.heap.size, rfl, ⟨fun _ => .slice none 0 0, HR1.out, ⟨cs, HR0.out, hcs, HAt.out⟩, fun k _ => PA.nil _⟩, by omega, hsz, HB6.out⟩

end Go.Proofs.Ytholemjbjmkpkaa
