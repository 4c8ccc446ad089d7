/- Package lanes: Put where there is room. -/
import Derived.Test.YtllmfkodgalklaaPoLnPut
namespace Go.Proofs.Ytllmfkodgalklaa
open Go.RowKit Go.Joins

section
variable {ops : Array Oper} {Q : Exit → Act → World → Prop} {S : World → Prop} {fuel : Nat} {listed : Array Bool} {a : Act} {w : World}
theorem put_some (k : Nat) (v : Value) (d : Option Tmp) (hd : d = some k) : a.put d v = { a with tmps := a.tmps.setIfInBounds k v } := by subst hd; rfl
theorem hTake {i k : Nat} {o : Oper} {v : Value} (hi : ops[i]? = some o) (hd : o.dst = some k) (hs : Region.noSelect ops = true) (hf : Region.free .any ops listed i = true) (hr : (Region.ready .any ops listed).contains i = true)
    (hQ : ∀ c a w, Q (.panic c) (a.put o.dst v) w → Q (.panic c) a w) (hw : Region.wanted o (yielded ops a.tmps) = true) (hy : ∀ W, (execOp a.eval o).run Try.prog W = .ok (.value v) W)
    (h : wpAnyH Try.prog .any ops Q (fun _ => True) fuel (listed.setIfInBounds i true) { a with tmps := a.tmps.setIfInBounds k v } w) : wpAnyH Try.prog .any ops Q (fun _ => True) (fuel + 1) listed a w :=
  wpAnyH_take hi hs hf hr hQ (.inl ⟨hw, fun W _ => hy W⟩) trivial (by rw [put_some k v _ hd]; exact h)
/-- The one operation that may come up now. -/
theorem hOne {i k : Nat} {o : Oper} {v : Value} {w' : World} (hr : Region.ready .any ops listed = [i]) (ho : ops[i]? = some o) (hd : o.dst = some k) (hw : Region.wanted o (yielded ops a.tmps) = true) (hx : (execOp a.eval o).run Try.prog w = .ok (.value v) w')
    (h : wpAnyH Try.prog .any ops Q (fun _ => True) fuel (listed.setIfInBounds i true) { a with tmps := a.tmps.setIfInBounds k v } w') : wpAnyH Try.prog .any ops Q (fun _ => True) (fuel + 1) listed a w := by
  refine wpAnyH_ready hr (by simp) (AllReadyH.cons ho (fun K hK => ?_) AllReadyH.nil)
  rw [if_pos hw]
  unfold Oper.wp
  rw [hx]
  exact hK _ _ trivial (fun _ => by rw [put_some k v _ hd]; exact h)
theorem hOneN {i : Nat} {o : Oper} {w' : World} (hr : Region.ready .any ops listed = [i]) (ho : ops[i]? = some o) (hd : o.dst = none) (hw : Region.wanted o (yielded ops a.tmps) = true) (hx : (execOp a.eval o).run Try.prog w = .ok .skip w')
    (h : wpAnyH Try.prog .any ops Q (fun _ => True) fuel (listed.setIfInBounds i true) a w') : wpAnyH Try.prog .any ops Q (fun _ => True) (fuel + 1) listed a w := by
  refine wpAnyH_ready hr (by simp) (AllReadyH.cons ho (fun K hK => ?_) AllReadyH.nil)
  rw [if_pos hw]
  unfold Oper.wp
  rw [hx]
  exact hK _ _ trivial (fun _ => by rw [hd]; exact h)
/-- One of two. -/
theorem hTwo {i j k m : Nat} {o p : Oper} {u v : Value} {w' w2 : World} (hr : Region.ready .any ops listed = [i, j]) (ho : ops[i]? = some o) (hp : ops[j]? = some p) (hd : o.dst = some k) (hd2 : p.dst = some m) (hw : Region.wanted o (yielded ops a.tmps) = true) (hw2 : Region.wanted p (yielded ops a.tmps) = true)
    (hx : (execOp a.eval o).run Try.prog w = .ok (.value v) w') (hx2 : (execOp a.eval p).run Try.prog w = .ok (.value u) w2)
    (h : wpAnyH Try.prog .any ops Q (fun _ => True) fuel (listed.setIfInBounds i true) { a with tmps := a.tmps.setIfInBounds k v } w') (h2 : wpAnyH Try.prog .any ops Q (fun _ => True) fuel (listed.setIfInBounds j true) { a with tmps := a.tmps.setIfInBounds m u } w2) : wpAnyH Try.prog .any ops Q (fun _ => True) (fuel + 1) listed a w := by
  refine wpAnyH_ready hr (by simp) (AllReadyH.cons ho (fun K hK => ?_) (AllReadyH.cons hp (fun K hK => ?_) AllReadyH.nil))
  · rw [if_pos hw]
    unfold Oper.wp
    rw [hx]
    exact hK _ _ trivial (fun _ => by rw [put_some k v _ hd]; exact h)
  · rw [if_pos hw2]
    unfold Oper.wp
    rw [hx2]
    exact hK _ _ trivial (fun _ => by rw [put_some m u _ hd2]; exact h2)
end
theorem app_op {a : Act} {o : Oper} {w w' : World} {v u v' : Value} (s x : Operand) (T : TypeId) (ho : o.op = .call { callee := .builtin .append, args := #[s, x], argTypes := #[T, T] }) (hs : a.eval s = v) (hx : a.eval x = u)
    (hr : ∀ ty, (Builtin.append_ #[T, T] ty #[v, u]).run Try.prog w = .ok v' w') : (execOp a.eval o).run Try.prog w = .ok (.value v') w' := by
  unfold execOp
  simp only [ho, resolve, invoke, builtin, Sem.run_bind, Sem.run_pure, Result.andThen_ok, List.map_toArray, List.map_cons, List.map_nil, hs, hx, hr]
section
variable {w : World} {b : Nat} {F : Nat → Prop} {s : LS}
set_option maxHeartbeats 4000000 in
theorem put_plain (b c : Nat) (x0 x1 : Int) (x2 : Bool) (w W V w' : World) (p p2 : Option Addr) (n cp n2 cp2 : Nat) (hW : W = w.alloc (.cells #[.int .i64 x0, .int .i64 x1, .bool x2] 35)) (hV : V = W.drew.alloc (.cells #[.int .i64 x0, .int .i64 x1, .bool x2] 35))
    (hc : c < 8) (h0 : 0 ≤ x1) (h1 : x1 ≤ 1600) (HF : Hid (Calls Try.prog 43 #[.pointer (some ⟨b, 0, none⟩), .int .i64 (c : Int), .bool x2] W fun e w' => e = .returned (.bool false) ∧ w' = W))
    (k0 : W.cell? ⟨b, 8 + c, none⟩ = some (.slice p n cp)) (k1 : V.cell? ⟨b, 8 + c, none⟩ = some (.slice p n cp)) (k2 : w'.cell? ⟨b, 8 + c, none⟩ = some (.slice p n cp)) (k3 : w'.frozen? ⟨b, 8 + c, none⟩ = false)
    (ha : ∀ ty, (Builtin.append_ #[79, 79] ty #[.slice p n cp, .slice (some ⟨W.heap.size, 0, none⟩) 1 1]).run Try.prog V = .ok (.slice p2 n2 cp2) w') :
    Calls Try.prog 19 #[.pointer (some ⟨b, 0, none⟩), .int .i64 (c : Int), .agg #[.int .i64 x0, .int .i64 x1, .bool x2]] w fun e w2 => e = .returned (.int .i64 0) ∧ w2 = w'.setCell ⟨b, 8 + c, none⟩ (.slice p2 n2 cp2) := by
  have d1 : decide (x1 < 0) = false := decide_eq_false (by omega)
  have d2 : decide (1600 < x1) = false := decide_eq_false (by omega)
  have HI := Lib.hid (fun W => isc_yes (c : Int) (by omega) (by omega) W)
  have HA := Lib.hid ha
  have i1 : (0 : Int) ≤ (c : Int) := by omega
  have i2 : (c : Int) < 8 := by omega
  have HV := Lib.hid hV
  have HW := Lib.hid hW
  have K0 := Lib.hid k0
  have K1 := Lib.hid k1
  have K2 := Lib.hid k2
  have K3 := Lib.hid k3
  clear ha h0 h1 hc hV k0 k1 k2 k3
  rw [hW] at HF
  clear hW
  go_enter Try.func19, Try.ntmps19
  go_wp2_with (first
    | (go_at_call 42; (with_reducible refine (HI.out _).mono ?_); rintro e w1 ⟨rfl, rfl⟩)
    | (go_at_call 43; (with_reducible refine HF.out.mono ?_); rintro e w1 ⟨rfl, rfl⟩))
  rw [← HW.out]
  have hWb : W.heap[w.heap.size]? = some (.cells #[.int .i64 x0, .int .i64 x1, .bool x2] 35) := by rw [HW.out]; exact heap_alloc_one' _ _
  have b0 : W.cell? ⟨w.heap.size, 0, none⟩ = some (.int .i64 x0) := cell_of_row _ _ _ _ _ _ hWb
  have b1 : W.cell? ⟨w.heap.size, 1, none⟩ = some (.int .i64 x1) := cell_of_row _ _ _ _ _ _ hWb
  have b2 : W.cell? ⟨w.heap.size, 2, none⟩ = some (.bool x2) := cell_of_row _ _ _ _ _ _ hWb
  have b0d : W.drew.cell? ⟨w.heap.size, 0, none⟩ = some (.int .i64 x0) := b0
  have b1d : W.drew.cell? ⟨w.heap.size, 1, none⟩ = some (.int .i64 x1) := b1
  have b2d : W.drew.cell? ⟨w.heap.size, 2, none⟩ = some (.bool x2) := b2
  have k0d : W.drew.cell? ⟨b, 8 + c, none⟩ = some (.slice p n cp) := K0.out
  have hV := HV.out
  have k1 : (W.alloc (.cells #[.int .i64 x0, .int .i64 x1, .bool x2] 35)).cell? ⟨b, 8 + c, none⟩ = some (.slice p n cp) := by
    have h := K1.out
    rw [HV.out] at h
    exact h
  have k2 := K2.out
  have k3 := K3.out
  clear hWb
  refine wp_region_held_drew (S := fun _ => True) (by kernel_rfl) trivial (fun _ => ?_)
  refine hTake (i := 0) (k := 40) (v := .pointer (some ⟨b, 0, none⟩)) rfl rfl (by kernel_rfl) (by kernel_rfl) (by kernel_rfl) (fun _ _ _ h => h) (by rfl) (by intro W; go_simp) ?_
  simp only [List.setIfInBounds_toArray, List.set_cons_zero, List.set_cons_succ]
  refine hTake (i := 1) (k := 41) (v := .int .i64 (c : Int)) rfl rfl (by kernel_rfl) (by kernel_rfl) (by kernel_rfl) (fun _ _ _ h => h) (by rfl) (by intro W; go_simp) ?_
  simp only [List.setIfInBounds_toArray, List.set_cons_zero, List.set_cons_succ]
  refine hTake (i := 2) (k := 42) (v := .pointer (some ⟨b, 0, none⟩)) rfl rfl (by kernel_rfl) (by kernel_rfl) (by kernel_rfl) (fun _ _ _ h => h) (by rfl) (by intro W; go_simp) ?_
  simp only [List.setIfInBounds_toArray, List.set_cons_zero, List.set_cons_succ]
  refine hTake (i := 3) (k := 43) (v := .int .i64 (c : Int)) rfl rfl (by kernel_rfl) (by kernel_rfl) (by kernel_rfl) (fun _ _ _ h => h) (by rfl) (by intro W; go_simp) ?_
  simp only [List.setIfInBounds_toArray, List.set_cons_zero, List.set_cons_succ]
  refine hTake (i := 4) (k := 44) (v := .pointer (some ⟨b, 0, none⟩)) rfl rfl (by kernel_rfl) (by kernel_rfl) (by kernel_rfl) (fun _ _ _ h => h) (by rfl) (by intro W; go_simp) ?_
  simp only [List.setIfInBounds_toArray, List.set_cons_zero, List.set_cons_succ]
  refine hTake (i := 5) (k := 45) (v := .pointer (some ⟨b, 8, none⟩)) rfl rfl (by kernel_rfl) (by kernel_rfl) (by kernel_rfl) (fun _ _ _ h => h) (by rfl) (by intro W; go_simp) ?_
  simp only [List.setIfInBounds_toArray, List.set_cons_zero, List.set_cons_succ]
  refine hTake (i := 6) (k := 46) (v := .pointer (some ⟨b, 8 + c, none⟩)) rfl rfl (by kernel_rfl) (by kernel_rfl) (by kernel_rfl) (fun _ _ _ h => h) (by rfl) (by intro W; go_simp) ?_
  simp only [List.setIfInBounds_toArray, List.set_cons_zero, List.set_cons_succ]
  refine hTake (i := 11) (k := 51) (v := .pointer (some ⟨b, 0, none⟩)) rfl rfl (by kernel_rfl) (by kernel_rfl) (by kernel_rfl) (fun _ _ _ h => h) (by rfl) (by intro W; go_simp) ?_
  simp only [List.setIfInBounds_toArray, List.set_cons_zero, List.set_cons_succ]
  refine hTake (i := 12) (k := 52) (v := .pointer (some ⟨b, 8, none⟩)) rfl rfl (by kernel_rfl) (by kernel_rfl) (by kernel_rfl) (fun _ _ _ h => h) (by rfl) (by intro W; go_simp) ?_
  simp only [List.setIfInBounds_toArray, List.set_cons_zero, List.set_cons_succ]
  refine hTwo (i := 7) (j := 8) (k := 47) (m := 48) (v := .slice p n cp) (u := .agg #[.int .i64 x0, .int .i64 x1, .bool x2]) (w' := W.drew) (w2 := W.drew) (by kernel_rfl) rfl rfl rfl rfl (by rfl) (by rfl) (by go_simp) (by go_simp) ?_ ?_
  all_goals simp only [List.setIfInBounds_toArray, List.set_cons_zero, List.set_cons_succ]
  · refine hOne (i := 8) (k := 48) (v := .agg #[.int .i64 x0, .int .i64 x1, .bool x2]) (w' := W.drew) (by kernel_rfl) rfl rfl (by rfl) (by go_simp) ?_
    simp only [List.setIfInBounds_toArray, List.set_cons_zero, List.set_cons_succ]
    refine hOne (i := 9) (k := 49) (v := .slice (some ⟨W.heap.size, 0, none⟩) 1 1) (w' := V) (by kernel_rfl) rfl rfl (by rfl) (by go_simp) ?_
    simp only [List.setIfInBounds_toArray, List.set_cons_zero, List.set_cons_succ]
    refine hOne (i := 10) (k := 50) (v := .slice p2 n2 cp2) (w' := w') (by kernel_rfl) rfl rfl (by rfl) (app_op (.tmp 47) (.tmp 49) 79 rfl rfl rfl HA.out) ?_
    simp only [List.setIfInBounds_toArray, List.set_cons_zero, List.set_cons_succ]
    refine hTake (i := 13) (k := 53) (v := .pointer (some ⟨b, 8 + c, none⟩)) rfl rfl (by kernel_rfl) (by kernel_rfl) (by kernel_rfl) (fun _ _ _ h => h) (by rfl) (by intro W; go_simp) ?_
    simp only [List.setIfInBounds_toArray, List.set_cons_zero, List.set_cons_succ]
    refine hOneN (i := 14) (w' := w'.setCell ⟨b, 8 + c, none⟩ (.slice p2 n2 cp2)) (by kernel_rfl) rfl rfl (by rfl) (by go_simp) ?_
    refine wpAnyH_done (by kernel_rfl) ?_ _
    go_wp2_with fail
    go_ret
    exact ⟨rfl, rfl⟩
  · refine hTwo (i := 7) (j := 9) (k := 47) (m := 49) (v := .slice p n cp) (u := .slice (some ⟨W.heap.size, 0, none⟩) 1 1) (w' := W.drew) (w2 := V) (by kernel_rfl) rfl rfl rfl rfl (by rfl) (by rfl) (by go_simp) (by go_simp) ?_ ?_
    all_goals simp only [List.setIfInBounds_toArray, List.set_cons_zero, List.set_cons_succ]
    · refine hOne (i := 9) (k := 49) (v := .slice (some ⟨W.heap.size, 0, none⟩) 1 1) (w' := V) (by kernel_rfl) rfl rfl (by rfl) (by go_simp) ?_
      simp only [List.setIfInBounds_toArray, List.set_cons_zero, List.set_cons_succ]
      refine hOne (i := 10) (k := 50) (v := .slice p2 n2 cp2) (w' := w') (by kernel_rfl) rfl rfl (by rfl) (app_op (.tmp 47) (.tmp 49) 79 rfl rfl rfl HA.out) ?_
      simp only [List.setIfInBounds_toArray, List.set_cons_zero, List.set_cons_succ]
      refine hTake (i := 13) (k := 53) (v := .pointer (some ⟨b, 8 + c, none⟩)) rfl rfl (by kernel_rfl) (by kernel_rfl) (by kernel_rfl) (fun _ _ _ h => h) (by rfl) (by intro W; go_simp) ?_
      simp only [List.setIfInBounds_toArray, List.set_cons_zero, List.set_cons_succ]
      refine hOneN (i := 14) (w' := w'.setCell ⟨b, 8 + c, none⟩ (.slice p2 n2 cp2)) (by kernel_rfl) rfl rfl (by rfl) (by go_simp) ?_
      refine wpAnyH_done (by kernel_rfl) ?_ _
      go_wp2_with fail
      go_ret
      exact ⟨rfl, rfl⟩
    · refine hOne (i := 7) (k := 47) (v := .slice p n cp) (w' := V) (by kernel_rfl) rfl rfl (by rfl) (by go_simp) ?_
      simp only [List.setIfInBounds_toArray, List.set_cons_zero, List.set_cons_succ]
      refine hOne (i := 10) (k := 50) (v := .slice p2 n2 cp2) (w' := w') (by kernel_rfl) rfl rfl (by rfl) (app_op (.tmp 47) (.tmp 49) 79 rfl rfl rfl HA.out) ?_
      simp only [List.setIfInBounds_toArray, List.set_cons_zero, List.set_cons_succ]
      refine hTake (i := 13) (k := 53) (v := .pointer (some ⟨b, 8 + c, none⟩)) rfl rfl (by kernel_rfl) (by kernel_rfl) (by kernel_rfl) (fun _ _ _ h => h) (by rfl) (by intro W; go_simp) ?_
      simp only [List.setIfInBounds_toArray, List.set_cons_zero, List.set_cons_succ]
      refine hOneN (i := 14) (w' := w'.setCell ⟨b, 8 + c, none⟩ (.slice p2 n2 cp2)) (by kernel_rfl) rfl rfl (by rfl) (by go_simp) ?_
      refine wpAnyH_done (by kernel_rfl) ?_ _
      go_wp2_with fail
      go_ret
      exact ⟨rfl, rfl⟩
theorem Ln.wide {F G : Nat → Prop} {w : World} {b : Nat} {s : LS} (h : Ln w b F s) (hf : ∀ k, F k → G k) (hg : ∀ k, G k → k < w.heap.size) : Ln w b G s := by
  obtain ⟨sl, h⟩ := h
  exact ⟨sl, h.box, fun c hc => (h.q c hc).wide hf, h.dis, hf b h.fb, hg⟩
theorem but_set {F : Nat → Prop} {w : World} {b : Nat} (hf : F b) (i : Nat) (v : Value) : ButP F w (w.setCell ⟨b, i, none⟩ v) :=
  ⟨rfl, rfl, rfl, by simp, fun k _ hn => heap_setCell_other w ⟨b, i, none⟩ k v (fun e => hn (by rw [show k = b from e]; exact hf))⟩
theorem put_ok (h : Ln w b F s) (c : Nat) (hc : c < 8) (x : It) (h0 : 0 ≤ x.2.1) (h1 : x.2.1 ≤ 1600) (hl : (s.q c).length < 90000) (hf : s.full c x.2.2 = false) :
    Calls Try.prog 19 #[.pointer (some ⟨b, 0, none⟩), .int .i64 (c : Int), itv x] w fun e w' => e = .returned (.int .i64 0) ∧ Ln w' b (Wid F w w') { s with q := upd s.q c (s.q c ++ [x]) } ∧ ButP F w w' := by
  obtain ⟨sl, h⟩ := h
  obtain ⟨W, hW⟩ : ∃ W, W = w.alloc (.cells (one3 x).toArray 35) := ⟨_, rfl⟩
  obtain ⟨V, hV⟩ : ∃ V, V = W.drew.alloc (.cells (one3 x).toArray 35) := ⟨_, rfl⟩
  have hb1 : Below w.heap.size w W := by rw [hW]; exact bAl (bRef w) _
  have hb2 : Below W.heap.size W V := by rw [hV]; exact (bDr1 (bRef W)).alloc (Nat.le_refl _) _
  have hI1 := h.below hb1
  have hI2 := hI1.below hb2
  have hnew : ∀ j u, (one3 x)[j]? = some u → V.cell? ((⟨W.heap.size, 0, none⟩ : Addr).add j) = some u := fun j u hu => by
    have e : (⟨W.heap.size, 0, none⟩ : Addr).add j = ⟨W.heap.size, j, none⟩ := by unfold Addr.add; split <;> simp_all
    have hv : V.heap[W.heap.size]? = some (.cells (one3 x).toArray 35 (0, 0)) := by rw [hV]; exact heap_alloc_one' W.drew _
    rw [e, cell_of_row _ _ _ _ _ _ hv]
    simpa using hu
  obtain ⟨v', w', hr, hq, hg, ho⟩ := (hI2.q c hc).app x ⟨W.heap.size, 0, none⟩ 1 hnew (by omega)
  have hset := hI2.setq hc hq hg ho
  have hbut := grown_but hI2 hc hg
  have hbox : w'.heap[b]? = some (.cells (lrow s sl) 82 (0, 0)) := (hg.block b (lt_of_heap hI2.box) (fun e => hI2.nq hc e.symm rfl)).trans hI2.box
  obtain ⟨p, cp, e1⟩ := (hI2.q c hc).form
  obtain ⟨p2, cp2, e2⟩ := hq.form
  have k0 := hI1.cq hc
  have k1 := hI2.cq hc
  have k2 : w'.cell? ⟨b, 8 + c, none⟩ = some (sl c) := (cell_of_row _ _ _ _ _ _ hbox).trans (lrow_q hc)
  have k3 : w'.frozen? ⟨b, 8 + c, none⟩ = false := frozen_of_row _ _ _ _ _ hbox
  have hF := full_any ⟨sl, hI1⟩ c hc x.2.2 (by omega)
  rw [hf] at hF
  rw [e1] at k0 k1 k2 hr
  rw [e2] at hr hset
  obtain ⟨x0, x1, x2⟩ := x
  refine (put_plain b c x0 x1 x2 w W V w' p p2 _ cp _ cp2 hW hV hc h0 h1 (Lib.hid hF) k0 k1 k2 k3 hr).mono fun e w2 hh => ?_
  obtain ⟨rfl, rfl⟩ := hh
  have hsz1 := hb1.size
  have hsz2 := hb2.size
  refine ⟨rfl, ?_, ?_⟩
  · refine (show Ln _ b _ _ from ⟨_, hset⟩).wide (fun k hk => ?_) (fun k hk => ?_)
    · rcases hk with hk | ⟨k1, k2⟩
      · exact .inl hk
      · exact .inr ⟨by omega, by simpa using k2⟩
    · rcases hk with hk | ⟨_, k2⟩
      · have := h.top k hk
        have := hg.size
        simp
        omega
      · exact k2
  · exact (((ButP.of_below hb1).same (ButP.of_below hb2)).same hbut).same (but_set h.fb _ _)
end

end Go.Proofs.Ytllmfkodgalklaa
