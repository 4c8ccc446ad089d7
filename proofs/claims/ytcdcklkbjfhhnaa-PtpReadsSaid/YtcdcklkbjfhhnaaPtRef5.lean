/- The reference's Check, whole; its Encode. -/
import Derived.Test.YtcdcklkbjfhhnaaPtRef4
import Derived.Deep.RegionLaw
namespace Go.Proofs.Ytcdcklkbjfhhnaa
open Go.RowKit Go.Joins

/-- The pairs of a kind. -/
def pairsOf (k : Int) : List (Nat × Nat) := if k = 3 ∨ k = 10 then [(1, 1), (2, 2), (3, 6), (4, 2), (5, 8), (6, 8), (7, 6), (8, 2)] else if k = 8 then [(1, 1), (2, 2), (3, 6), (4, 2), (5, 8), (6, 8), (9, 8)] else if k = 11 then [(1, 1), (2, 2), (3, 6), (4, 2), (5, 8), (10, 1), (11, 1), (12, 1), (13, 6), (14, 1)] else [(1, 1), (2, 2), (3, 6), (4, 2), (5, 8)]
theorem fields_any (k : Int) (hk : k = 0 ∨ k = 2 ∨ k = 3 ∨ k = 8 ∨ k = 10 ∨ k = 11) (w : World) : Calls Try.prog 20 #[.int .i64 k] w (FldPost w (pairsOf k) true) := by
  rcases hk with rfl | rfl | rfl | rfl | rfl | rfl
  · exact fields_0 w
  · exact fields_2 w
  · exact fields_3 w
  · exact fields_8 w
  · exact fields_10 w
  · exact fields_11 w
theorem pairs_small (k : Int) : (pairsOf k).length ≤ 20 ∧ ∀ j, j < (pairsOf k).length → ((pairsOf k).getD j (0, 0)).1 < 15 := by
  unfold pairsOf
  split
  · exact ⟨by decide, by decide⟩
  split
  · exact ⟨by decide, by decide⟩
  split
  · exact ⟨by decide, by decide⟩
  · exact ⟨by decide, by decide⟩
theorem chk6_any (m : Mg) (hk : m.kind = 0 ∨ m.kind = 2 ∨ m.kind = 3 ∨ m.kind = 8 ∨ m.kind = 10 ∨ m.kind = 11) : chk6 m ((pairsOf m.kind).map Prod.fst) = m.chk := by
  rcases hk with h | h | h | h | h | h
  · have e : (pairsOf m.kind).map Prod.fst = [1, 2, 3, 4, 5] := by rw [h]; rfl
    rw [e]; exact chk6_0 m h
  · have e : (pairsOf m.kind).map Prod.fst = [1, 2, 3, 4, 5] := by rw [h]; rfl
    rw [e]; exact chk6_2 m h
  · have e : (pairsOf m.kind).map Prod.fst = [1, 2, 3, 4, 5, 6, 7, 8] := by rw [h]; rfl
    rw [e]; exact chk6_3 m h
  · have e : (pairsOf m.kind).map Prod.fst = [1, 2, 3, 4, 5, 6, 9] := by rw [h]; rfl
    rw [e]; exact chk6_8 m h
  · have e : (pairsOf m.kind).map Prod.fst = [1, 2, 3, 4, 5, 6, 7, 8] := by rw [h]; rfl
    rw [e]; exact chk6_10 m h
  · have e : (pairsOf m.kind).map Prod.fst = [1, 2, 3, 4, 5, 10, 11, 12, 13, 14] := by rw [h]; rfl
    rw [e]; exact chk6_11 m h
/-- The reference's Check. -/
theorem rcheck_any (m : Mg) (v : Value) (w : World) (hA : LArg w v m.path) : Calls Try.prog 19 #[.agg (MC m v)] w fun e w' => e = .returned (.int .i64 (m.chk : Int)) ∧ Below w.heap.size w w' := by
  obtain ⟨p, c, hv⟩ := hA.slice
  subst hv
  by_cases hk : m.kind = 0 ∨ m.kind = 2 ∨ m.kind = 3 ∨ m.kind = 8 ∨ m.kind = 10 ∨ m.kind = 11
  · rw [← chk6_any m hk]
    exact rc_main m p _ c w (pairsOf m.kind) (pairs_small _).1 (Lib.hid rfl) (Lib.hid hA) (Lib.hid (pairs_small _).2) (Lib.hid fun wx => fields_any _ hk wx)
  · have e : m.chk = 23 := by
      rcases kind_chk m with ⟨_, h⟩ | ⟨h, _⟩
      · exact h
      · exact absurd h hk
    rw [e]
    exact rc_kind m p _ c w (Lib.hid fun wx => ⟨_, fields_no m.kind wx (by simp; omega) (by simp; omega) (by simp; omega) (by simp; omega) (by simp; omega) (by simp; omega)⟩)

theorem at_loadS {ops : Array Oper} {rest : List Oper} {d : Option Tmp} {x : Operand} {t : TypeId} {s : String} {af : Array Edge} {a : Act} {w : World} {Q : Exit → Act → World → Prop}
    (h : wpList Try.prog ops Q (⟨d, .load 38 x, t, s, af, none⟩ :: rest) a w) : wpList Try.prog ops Q (⟨d, .load 38 x, t, s, af, none⟩ :: rest) a w := h
theorem wpList_loadS {ops : Array Oper} {rest : List Oper} {o : Oper} {a : Act} {w : World} {Q : Exit → Act → World → Prop} (hgd : o.guard = none) (x : Operand) (ho : o.op = .load 38 x)
    (g : Nat) (hx : a.eval x = .pointer (some ⟨g, 0, none⟩)) (cs : Array Value) (fr : Nat × Nat) (hg : w.heap[g]? = some (.cells cs 38 fr)) (hs : cs.size = 16)
    (h : wpList Try.prog ops Q rest (a.put o.dst (.agg cs)) w) : wpList Try.prog ops Q (o :: rest) a w :=
  wpList_load_row hgd 38 x ho g hx 38 cs fr _ hg Try.underlying38 rfl (by rw [hs]; kernel_rfl) h

theorem renc_bad (m : Mg) (v : Value) (x : Nat) (w : World) (hx : (((x : Nat) : Int) != 0) = true) (HC : Hid (∀ wx, Below w.heap.size w wx → Calls Try.prog 19 #[.agg (MC m v)] wx fun e w' => e = .returned (.int .i64 (x : Int)) ∧ Below wx.heap.size wx w')) :
    Calls Try.prog 10 #[.agg (MC m v)] w fun e w' => e = .returned (.tuple #[.slice none 0 0, .int .i64 (x : Int)]) ∧ Below w.heap.size w w' := by
  go_enter Try.func10, Try.ntmps10
  go_wp2_with (first
    | ((with_reducible refine at_loadS ?_); refine wpList_loadS rfl _ rfl w.heap.size rfl (MC m v) _ (heap_alloc_new w _) rfl ?_)
    | (go_at_call 19; (with_reducible refine (HC.out _ (bAl (bRef w) _)).mono ?_); rintro e w1 ⟨rfl, hb⟩; have HB := Lib.hid (bTr (bAl (bRef w) _) hb); clear hb))
  go_ret2
  exact ⟨rfl, HB.out⟩

def EnRel (w : World) (g1 : Nat) (m : Mg) (v : Value) (ps : List (Nat × Nat)) (h : List Nat) (ov iv : Value) (wr : World) : Prop :=
  ∃ j : Nat, j ≤ ps.length ∧ iv = .int .i64 (j : Int) ∧ BoxS wr w.heap.size m v ∧ PRow wr g1 ps ∧ OwnB w wr ov (h ++ (ps.take j).flatMap fun q => be q.2 ((nums m).getD q.1 0))
theorem BoxS.oth {W W' : World} {g : Nat} {m : Mg} {v : Value} (h : BoxS W g m v) (ho : Oth W W') : BoxS W' g m v := ho _ _ _ _ h (by decide)
theorem PRow.oth {W W' : World} {g : Nat} {ps : List (Nat × Nat)} (h : PRow W g ps) (ho : Oth W W') : PRow W' g ps := by
  obtain ⟨cs, fr, hg, hc⟩ := h
  exact ⟨cs, fr, ho _ _ _ _ hg (by decide), hc⟩

/-- An append to what the call owns, as one operation. -/
theorem wp_appo {o : Oper} {a : Act} {K : Act → World → Prop} {Q : Exit → Act → World → Prop} (s x : Operand)
    (ho : o.op = .call { callee := .builtin .append, args := #[s, x], argTypes := #[30, 30] })
    (w0 w : World) (v u : Value) (os xs : List Nat) (hs : a.eval s = v) (hx : a.eval x = u) (hown : OwnB w0 w v os) (harg : BArg w u xs) (hl : os.length + xs.length ≤ 140737488355328)
    (h : ∀ v' w', OwnB w0 w' v' (os ++ xs) → Oth w w' → K (a.put o.dst v') w') : o.wp Try.prog a w K Q := by
  obtain ⟨i0, hi, hz0, hz1, hz2⟩ := info_parts Try.infoU8
  have hb0 := hown.bel
  have hblk : ∀ k, v.ownBlock = some k → ∃ cs fr, w.heap[k]? = some (.cells cs 5 fr) := by
    intro k hk
    rcases hown.1.2 with ⟨e, _⟩ | ⟨g, cap, cur, e, _, hg, _⟩
    · exact absurd e hown.2.2.2
    · subst e
      simp [Value.ownBlock] at hk
      subst hk
      exact ⟨_, _, hg⟩
  have key : ∀ ad m c, u = .slice (some ad) m c → m = xs.length → (∀ j e, (bv xs)[j]? = some e → w.cell? (ad.add j) = some e) → o.wp Try.prog a w K Q := by
    intro ad m c hu hm hc
    subst hm
    refine wp_append_own w s x 30 ho w0.heap.size 5 i0 (.int .u8 0) 1 1 Try.underlying30 hi hz0 hz1 hz2 rfl (by decide) v os.length (bv os) hs hown.1 ad xs.length c (bv xs) (hx.trans hu) (by rw [bv_len]; omega) hc (bv_one xs) (by unfold maxLen; omega) (by omega) hb0.size ?_
    intro v' w' h1 h2 h3
    refine h v' w' ⟨?_, hb0.grown h2 hb0.size (fun k hk => (hown.1.lt k hk).1), bytes_app hown.2.2.1 harg.1, fun e => hown.2.2.2 (h3.1 e).1⟩ ?_
    · have e : bv (os ++ xs) = bv os ++ bv xs := by simp [bv]
      rw [e, List.length_append]
      exact h1
    · intro k cs t fr hk ht
      rw [h2.block k (by rcases Nat.lt_or_ge k w.heap.size with g | g; exact g; rw [Array.getElem?_eq_none g] at hk; cases hk) (fun e => ?_), hk]
      obtain ⟨cs2, fr2, h5⟩ := hblk k e.symm
      rw [hk] at h5
      injection h5 with h6
      injection h6 with _ h7 _
      exact ht h7
  rcases harg.2 with ⟨rfl, p, c, rfl, hp⟩ | ⟨h0, b, o', c, rfl, hc, hr⟩
  · cases p with
    | some ad => exact key ad 0 c rfl rfl (fun j e he => by simp [bv] at he)
    | none =>
      obtain rfl := hp rfl
      have hrun := run_append_owned_none (P := Try.prog) (w := w) w0.heap.size 30 o.type 5 i0 1 Try.underlying30 hi v os.length (bv os) hown.1
      have h2 := h v w (by rw [List.append_nil]; exact hown) (Oth.refl w)
      unfold Oper.wp
      simp [execOp, ho, resolve, invoke, builtin, hs, hx, hrun, Result.andThen]
      exact h2
  · refine key _ _ c rfl rfl (fun j e he => ?_)
    have hj : j < xs.length := by
      have := (List.getElem?_eq_some_iff.1 he).1
      rwa [bv_len] at this
    rw [bv_at hj] at he
    rw [addr_add2, (hr h0).2 j hj]
    exact he
/-- The same, as one step of a region that draws. -/
theorem step_appo {ops : Array Oper} {o : Oper} {a : Act} {K : Act → World → Prop} {Q : Exit → Act → World → Prop} {E : Prop} (hgd : o.guard = none) (s x : Operand)
    (ho : o.op = .call { callee := .builtin .append, args := #[s, x], argTypes := #[30, 30] })
    (w0 w : World) (v u : Value) (os xs : List Nat) (hs : a.eval s = v) (hx : a.eval x = u) (hown : OwnB w0 w v os) (harg : BArg w u xs) (hl : os.length + xs.length ≤ 140737488355328)
    (h : ∀ v' w', OwnB w0 w' v' (os ++ xs) → Oth w w' → K (a.put o.dst v') w') : if Region.wanted o (yielded ops a.tmps) = true then Oper.wp Try.prog o a w K Q else E := by
  rw [if_pos (by simp [Region.wanted, hgd])]
  exact wp_appo s x ho w0 w v u os xs hs hx hown harg hl h

/-- The law of an append to what the call owns: what else is kept. -/
theorem wpList_appo {ops : Array Oper} {rest : List Oper} {o : Oper} {a : Act} {Q : Exit → Act → World → Prop} (hgd : o.guard = none) (s x : Operand)
    (ho : o.op = .call { callee := .builtin .append, args := #[s, x], argTypes := #[30, 30] })
    (w0 w : World) (v u : Value) (os xs : List Nat) (hs : a.eval s = v) (hx : a.eval x = u) (hown : OwnB w0 w v os) (harg : BArg w u xs) (hl : os.length + xs.length ≤ 140737488355328)
    (h : ∀ v' w', OwnB w0 w' v' (os ++ xs) → Oth w w' → wpList Try.prog ops Q rest (a.put o.dst v') w') : wpList Try.prog ops Q (o :: rest) a w := by
  obtain ⟨i0, hi, hz0, hz1, hz2⟩ := info_parts Try.infoU8
  have hb0 := hown.bel
  have hblk : ∀ k, v.ownBlock = some k → ∃ cs fr, w.heap[k]? = some (.cells cs 5 fr) := by
    intro k hk
    rcases hown.1.2 with ⟨e, _⟩ | ⟨g, cap, cur, e, _, hg, _⟩
    · exact absurd e hown.2.2.2
    · subst e
      simp [Value.ownBlock] at hk
      subst hk
      exact ⟨_, _, hg⟩
  have key : ∀ ad m c, u = .slice (some ad) m c → m = xs.length → (∀ j e, (bv xs)[j]? = some e → w.cell? (ad.add j) = some e) → wpList Try.prog ops Q (o :: rest) a w := by
    intro ad m c hu hm hc
    subst hm
    refine wpList_append_own w hgd s x 30 ho w0.heap.size 5 i0 (.int .u8 0) 1 1 Try.underlying30 hi hz0 hz1 hz2 rfl (by decide) v os.length (bv os) hs hown.1 ad xs.length c (bv xs) (hx.trans hu) (by rw [bv_len]; omega) hc (bv_one xs) (by unfold maxLen; omega) (by omega) hb0.size ?_
    intro v' w' h1 h2 h3
    refine h v' w' ⟨?_, hb0.grown h2 hb0.size (fun k hk => (hown.1.lt k hk).1), bytes_app hown.2.2.1 harg.1, fun e => hown.2.2.2 (h3.1 e).1⟩ ?_
    · have e : bv (os ++ xs) = bv os ++ bv xs := by simp [bv]
      rw [e, List.length_append]
      exact h1
    · intro k cs t fr hk ht
      rw [h2.block k (by rcases Nat.lt_or_ge k w.heap.size with g | g; exact g; rw [Array.getElem?_eq_none g] at hk; cases hk) (fun e => ?_), hk]
      obtain ⟨cs2, fr2, h5⟩ := hblk k e.symm
      rw [hk] at h5
      injection h5 with h6
      injection h6 with _ h7 _
      exact ht h7
  rcases harg.2 with ⟨rfl, p, c, rfl, hp⟩ | ⟨h0, b, o', c, rfl, hc, hr⟩
  · cases p with
    | some ad => exact key ad 0 c rfl rfl (fun j e he => by simp [bv] at he)
    | none =>
      obtain rfl := hp rfl
      refine wpList_append_own_none hgd s x 30 ho w0.heap.size 5 i0 1 Try.underlying30 hi v os.length (bv os) hs hown.1 hx ?_
      have := h v w (by rw [List.append_nil]; exact hown) (Oth.refl w)
      exact this
  · refine key _ _ c rfl rfl (fun j e he => ?_)
    have hj : j < xs.length := by
      have := (List.getElem?_eq_some_iff.1 he).1
      rwa [bv_len] at this
    rw [bv_at hj] at he
    rw [addr_add2, (hr h0).2 j hj]
    exact he
theorem fm_len (f : Nat → Int) : ∀ ps : List (Nat × Nat), (∀ q ∈ ps, q.2 ≤ 8) → (ps.flatMap fun q => be q.2 (f q.1)).length ≤ 8 * ps.length
  | [], _ => by simp
  | q :: r, h => by
    have h2 := fm_len f r (fun q hq => h q (List.mem_cons_of_mem _ hq))
    have h1 := h q List.mem_cons_self
    simp only [List.flatMap_cons, List.length_append, be_len, List.length_cons]
    omega
theorem fm_take (f : Nat → Int) (ps : List (Nat × Nat)) (j : Nat) (hl : ps.length ≤ 20) (h : ∀ j, j < ps.length → (ps.getD j (0, 0)).1 < 15 ∧ (ps.getD j (0, 0)).2 ≤ 8) : ((ps.take j).flatMap fun q => be q.2 (f q.1)).length ≤ 160 := by
  have h1 := fm_len f (ps.take j) (fun q hq => by
    obtain ⟨i, hi, he⟩ := List.mem_iff_getElem.1 (List.mem_of_mem_take hq)
    have := (h i hi).2
    rw [List.getD_eq_getElem?_getD, List.getElem?_eq_getElem hi, Option.getD_some, he] at this
    exact this)
  rw [List.length_take] at h1
  omega

theorem OwnB.oneI (w : World) (z : Int) (K : Nat) (hz : z = (K : Int)) (hK : K < 256) : OwnB w (w.alloc (.cells #[.int .u8 z] 5)) (.slice (some ⟨w.heap.size, 0, none⟩) 1 1) [K] := by subst hz; exact OwnB.one w K hK
def EnRel2 (w : World) (m : Mg) (h : List Nat) (ov iv : Value) (wr : World) : Prop :=
  ∃ j : Nat, j ≤ m.path.length ∧ iv = .int .i64 (j : Int) ∧ OwnB w wr ov (h ++ bes 6 (m.path.take j))
set_option maxRecDepth 100000 in
set_option maxHeartbeats 4000000 in
theorem renc_main (m : Mg) (X : List Nat) (p : Option Addr) (n c : Nat) (w : World) (ps : List (Nat × Nat)) (hl : ps.length ≤ 20) (hn : Hid (n = m.path.length)) (hA : Hid (LArg w (.slice p n c) m.path)) (hk0 : 0 ≤ m.kind) (hk11 : m.kind ≤ 11)
    (HC : Hid (∀ wx, Below w.heap.size w wx → Calls Try.prog 19 #[.agg (MC m (.slice p n c))] wx fun e w' => e = .returned (.int .i64 0) ∧ Below wx.heap.size wx w'))
    (HF : Hid (∀ wx, Calls Try.prog 20 #[.int .i64 m.kind] wx (FldPost wx ps true))) (hps : Hid (∀ j, j < ps.length → (ps.getD j (0, 0)).1 < 15 ∧ (ps.getD j (0, 0)).2 ≤ 8)) (hni : Hid (∀ i, In64 ((nums m).getD i 0)))
    (HT : Hid (X = ([16 + m.kind.toNat] ++ ps.flatMap fun q => be q.2 ((nums m).getD q.1 0)) ++ if m.kind = 11 then [m.path.length] ++ bes 6 m.path else [])) (hpl : m.kind = 11 → m.path.length ≤ 32) :
    Calls Try.prog 10 #[.agg (MC m (.slice p n c))] w fun e w' => ∃ v, e = .returned (.tuple #[v, .int .i64 0]) ∧ OwnB w w' v X := by
  have HX0 : Hid (BoxS (w.alloc (.cells (MC m (.slice p n c)) 38)) w.heap.size m (.slice p n c)) := Lib.hid (heap_alloc_new w _)
  go_enter Try.func10, Try.ntmps10
  go_wp2_with (first
    | ((with_reducible refine at_loadS ?_); refine wpList_loadS rfl _ rfl w.heap.size rfl (MC m (.slice p n c)) _ (heap_alloc_new w _) rfl ?_)
    | (go_at_call 19; (with_reducible refine (HC.out _ (bAl (bRef w) _)).mono ?_); rintro e w1 ⟨rfl, hb⟩; have HB := Lib.hid (bTr (bAl (bRef w) _) hb); have HX := Lib.hid (HX0.out.below hb); clear hb; have k0 := HX.out.num 0 (by omega); have k0b := fun ob => (HX.out.below (bAl (bRef w1) ob)).num 0 (by omega); simp only [nums, List.getD_cons_zero] at k0 k0b)
    | (go_at_call 20; (with_reducible refine (HF.out _).mono ?_); rintro e w2 ⟨g1, c1, rfl, hp, hb⟩; have HP := Lib.hid hp; have HX2 := Lib.hid (HX.out.below (bTr (bAl (bRef w1) _) hb)); have HO := Lib.hid (OwnB.below (OwnB.from HB.out (OwnB.oneI w1 (16 + m.kind) (16 + m.kind.toNat) (by omega) (by omega))) hb); clear hb hp))
  go_loopw [5, 32] (fun ov iv wr => EnRel w g1 m (.slice p n c) ps [16 + m.kind.toNat] ov iv wr) (fun _ iv _ => ps.length - (intOf iv).toNat)
  case atStart => exact ⟨0, by omega, rfl, HX2.out, HP.out, ownB_eq HO.out (by simp)⟩
  case round =>
    obtain ⟨j, hj, rfl, hx, hp, ho⟩ := hrel
    have HX3 := Lib.hid hx
    have HP3 := Lib.hid hp
    have HO3 := Lib.hid ho
    clear hx hp ho
    rcases Nat.lt_or_ge j ps.length with g | g
    · have hd : decide ((j : Int) < (ps.length : Int)) = true := decide_eq_true (by omega)
      obtain ⟨cs, fr, hg, hc⟩ := HP3.out
      obtain ⟨hc1, hc2⟩ := hc j g
      have ka : wr.cell? ⟨g1, j * 2, none⟩ = some (.int .i64 ((ps.getD j (0, 0)).1 : Int)) := by rw [Nat.mul_comm, cell_of_row wr g1 _ _ _ _ hg]; exact hc1
      have kb : wr.cell? ⟨g1, j * 2 + 1, none⟩ = some (.int .i64 ((ps.getD j (0, 0)).2 : Int)) := by rw [Nat.mul_comm, cell_of_row wr g1 _ _ _ _ hg]; exact hc2
      obtain ⟨ha, hb8⟩ := hps.out j g
      have hpe : ((ps.take (j + 1)).flatMap fun q => be q.2 ((nums m).getD q.1 0)) = ((ps.take j).flatMap fun q => be q.2 ((nums m).getD q.1 0)) ++ be (ps.getD j (0, 0)).2 ((nums m).getD (ps.getD j (0, 0)).1 0) := by
        rw [List.take_succ_eq_append_getElem g, List.flatMap_append]; simp [List.getD_eq_getElem?_getD, g]
      have HPe := Lib.hid hpe
      obtain ⟨a, hae⟩ : ∃ a, a = (ps.getD j (0, 0)).1 := ⟨_, rfl⟩
      obtain ⟨b, hbe⟩ : ∃ b, b = (ps.getD j (0, 0)).2 := ⟨_, rfl⟩
      rw [← hae] at ka ha HPe
      rw [← hbe] at kb hb8 HPe
      have kN : ∀ ob, (wr.alloc ob).cell? ⟨w.heap.size, a, none⟩ = some (.int .i64 ((nums m).getD a 0)) := fun ob => (HX3.out.below (bAl (bRef wr) ob)).num a ha
      have hin := hni.out a
      unfold In64 at hin
      obtain ⟨x, hxe⟩ : ∃ x, x = (nums m).getD a 0 := ⟨_, rfl⟩
      rw [← hxe] at hin HPe
      simp only [← hxe] at kN
      have ib : 0 ≤ (a : Int) ∧ (a : Int) < 15 := by omega
      have HLn : Hid (([16 + m.kind.toNat] ++ (ps.take j).flatMap fun q => be q.2 ((nums m).getD q.1 0)).length + (be b x).length ≤ 140737488355328) := Lib.hid (by
        have := fm_take (fun i => (nums m).getD i 0) ps j hl hps.out
        rw [be_len, List.length_append, List.length_singleton]
        omega)
      have HBY := Lib.hid (fun W => bytes_any x b W hb8 hin.1 hin.2)
      clear hc1 hc2 hc hg hpe hae hbe cs fr hxe hin hb8
      go_wp2_with fail
      go_region_law (first
        | (refine step_appo rfl _ _ rfl w _ u5 vb _ (be b x) rfl rfl HOb.out HVb.out HLn.out ?_; intro v9 w9 hown hoth; have HO9 := Lib.hid hown; have HX9 := Lib.hid (HXb.out.oth hoth); have HP9 := Lib.hid (HPb.out.oth hoth); clear hown hoth)
        | (go_simp; go_at_call 21; (with_reducible refine (HBY.out _).mono ?_); rintro e wb ⟨vb, rfl, hown⟩; have HVb := Lib.hid hown.arg; have HOb := Lib.hid ((HO3.out.alloc _).drew.below hown.bel); have HXb := Lib.hid (HX3.out.below (bTr (bDr1 (bAl (bRef wr) _)) hown.bel)); have HPb := Lib.hid (HP3.out.below (bTr (bDr1 (bAl (bRef wr) _)) hown.bel)); clear hown))
      all_goals
        go_wp2_with fail
        go_roundw
        case rel => exact ⟨j + 1, g, by go_num, HX9.out, HP9.out, ownB_eq HO9.out (by rw [HPe.out, List.append_assoc])⟩
        case measure => simp [intOf]; omega
    · obtain rfl : j = ps.length := by omega
      rw [List.take_length] at HO3
      have kk := HX3.out.num 0 (by omega)
      have kp := HX3.out.path
      simp only [nums, List.getD_cons_zero] at kk
      by_cases h11 : m.kind = 11
      · have q11 : (m.kind == 11) = true := by simp [h11]
        have hp32 := hpl h11
        have hT := HT.out
        rw [if_pos h11] at hT
        have HT2 := Lib.hid hT
        have HLn : Hid (([16 + m.kind.toNat] ++ ps.flatMap fun q => be q.2 ((nums m).getD q.1 0)).length ≤ 161) := Lib.hid (by
          have := fm_take (fun i => (nums m).getD i 0) ps ps.length hl hps.out
          rw [List.take_length] at this
          rw [List.length_append, List.length_singleton]
          omega)
        obtain ⟨H, hH⟩ : ∃ H, H = [16 + m.kind.toNat] ++ ps.flatMap fun q => be q.2 ((nums m).getD q.1 0) := ⟨_, rfl⟩
        rw [← hH] at HLn HT2 HO3
        have n32 : n ≤ 32 := by rw [hn.out]; exact hp32
        clear hT hp32 h11 hH
        go_wp2_with (at_builtin; refine wpList_appo rfl _ _ rfl w _ u5 (.slice (some ⟨wr.heap.size, 0, none⟩) 1 1) _ [n] rfl rfl (HO3.out.alloc _) (BArg.one wr n (by omega) _ rfl _) (by have := HLn.out; simp only [List.length_singleton]; omega) ?_; intro v3 w3 hown hoth; have HO4 := Lib.hid hown; have HX4 := Lib.hid ((HX3.out.below (bAl (bRef wr) _)).oth hoth); have kp4 := HX4.out.path; clear hown hoth)
        go_loopw [5, 61, 11] (fun ov iv _ wr => EnRel2 w m (H ++ [n]) ov iv wr) (fun _ iv _ _ => n - (intOf iv).toNat)
        case atStart => exact ⟨0, by omega, rfl, ownB_eq HO4.out (by simp [bes])⟩
        case round =>
          obtain ⟨i, hi, rfl, ho⟩ := hrel
          have HO5 := Lib.hid ho
          clear ho
          rw [← hn.out] at hi
          rcases Nat.lt_or_ge i n with gi | gi
          · have hd2 : decide ((i : Int) < (n : Int)) = true := decide_eq_true (by omega)
            rcases (hA.out.below HO5.out.bel).2 with ⟨e, _⟩ | ⟨_, b, o, c', e, _, hr⟩
            · have := hn.out; rw [e] at this; simp at this; omega
            injection e with e1 e2 e3
            subst e1 e3
            have hcell := (hr (by rw [← hn.out]; omega)).2 i (by rw [← hn.out]; exact gi)
            have hin := in_getD hA.out.1 i
            have HTk := Lib.hid (bes_take (n := 6) (ys := m.path) (k := i) (by rw [← hn.out]; exact gi))
            have HL6 := Lib.hid (show (H ++ [n] ++ bes 6 (m.path.take i)).length + (be 6 (m.path.getD i 0)).length ≤ 140737488355328 by
              have := HLn.out
              rw [List.length_append, List.length_append, bes_len, be_len, List.length_take, List.length_singleton]
              omega)
            obtain ⟨x, hx⟩ : ∃ x, x = m.path.getD i 0 := ⟨_, rfl⟩
            rw [← hx] at hcell hin HTk HL6
            unfold In64 at hin
            have HBY : Hid (∀ W, Calls Try.prog 21 #[.int .i64 x, .int .i64 6] W (OwnPost W (be 6 x))) := Lib.hid (fun W => bytes_any x 6 W (by omega) hin.1 hin.2)
            clear hr e2 hx hin
            go_wp2_with (first
              | (go_at_call 21; (with_reducible refine (HBY.out _).mono ?_); rintro e wb ⟨vb, rfl, hown⟩; have HVb := Lib.hid hown.arg; have HOb := Lib.hid (HO5.out.below hown.bel); clear hown)
              | (at_builtin; refine wpList_appo rfl _ _ rfl w _ u5 vb _ (be 6 x) rfl rfl HOb.out HVb.out HL6.out ?_; intro v9 w9 hown hoth; have HO9 := Lib.hid hown; clear hown hoth))
            go_roundw
            case rel => exact ⟨i + 1, by rw [← hn.out]; exact gi, by go_num, ownB_eq HO9.out (by rw [HTk.out, List.append_assoc (H ++ [n])])⟩
            case measure => simp [intOf]; omega
          · obtain rfl : i = n := by omega
            go_wp2_with fail
            go_ret2
            exact ⟨_, rfl, ownB_eq HO5.out (by rw [HT2.out, hn.out, List.take_length, List.append_assoc])⟩
      · have q11 : (m.kind == 11) = false := by simp [h11]
        have hT := HT.out
        rw [if_neg h11, List.append_nil] at hT
        have HT2 := Lib.hid hT
        clear hT h11
        go_wp2_with fail
        go_ret2
        exact ⟨_, rfl, ownB_eq HO3.out HT2.out.symm⟩

end Go.Proofs.Ytcdcklkbjfhhnaa
