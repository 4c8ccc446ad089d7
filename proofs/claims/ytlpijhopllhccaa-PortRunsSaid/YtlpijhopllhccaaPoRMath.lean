/- PortRuns in plain numbers: the law's lists beside the port's; calls of a nil port. -/
import Derived.Test.YtlpijhopllhccaaPoTwo
namespace Go.Proofs.Ytlpijhopllhccaa
open Go.RowKit Go.Joins

/-- The law's lists as a gate has them. -/
def nz (Q : PL) : PL := if Q.wt = true then Q else ⟨Q.b1, Q.c1, Q.t1, 0, 0, [], 0, false⟩
/-- What the law makes of its lists at a time. -/
def lawT (Q : PL) (x : Int) : PL := if Q.due x then ⟨Q.b2, Q.c2, Q.t2, Q.b2, Q.c2, Q.t2, Q.fr, false⟩ else Q
theorem nz_turn (Q : PL) (x : Int) : nz (lawT Q x) = (nz Q).turn x := by
  unfold lawT
  by_cases h : Q.due x
  · rw [if_pos h]
    have e : nz Q = Q := if_pos h.1
    rw [e]
    exact (if_pos h).symm
  · rw [if_neg h]
    unfold nz
    by_cases hw : Q.wt = true
    · rw [if_pos hw]
      exact (if_neg h).symm
    · rw [if_neg hw]
      exact (if_neg (fun e => by cases e.1)).symm
theorem turn_turn (p : PL) {x y : Int} (h : x ≤ y) : (p.turn x).turn y = p.turn y := by
  unfold PL.turn
  by_cases hx : p.due x
  · have hy : p.due y := ⟨hx.1, Int.le_trans hx.2 h⟩
    rw [if_pos hx, if_pos hy]
    exact if_neg (fun e => by cases e.1)
  · rw [if_neg hx]
def Sim (p Q : PL) (n : Int) : Prop := ∀ x, n ≤ x → p.turn x = (nz Q).turn x
section
variable {p Q : PL} {n m : Int}
theorem Sim.mono (h : Sim p Q n) (hm : n ≤ m) : Sim p Q m := fun x hx => h x (Int.le_trans hm hx)
theorem Sim.lt (h : Sim p Q n) : Sim p (lawT Q n) n := fun x hx => by rw [nz_turn, turn_turn _ hx]; exact h x hx
theorem Sim.at (h : Sim p Q n) : p.turn n = nz (lawT Q n) := by rw [nz_turn]; exact h n (Int.le_refl _)
theorem Sim.of_eq (h : p = nz Q) : Sim p Q n := fun x _ => by rw [h]
theorem lawT_lawT (Q : PL) (n : Int) : PL.due (lawT Q n) n → False := fun h => by
  unfold lawT at h
  split at h
  · cases h.1
  · rename_i h2
    exact h2 h
theorem nz_parts (Q : PL) : (nz Q).b1 = Q.b1 ∧ (nz Q).c1 = Q.c1 ∧ (nz Q).t1 = Q.t1 ∧ (nz Q).wt = Q.wt ∧ (Q.wt = true → (nz Q).fr = Q.fr) := by
  unfold nz
  by_cases h : Q.wt = true
  · rw [if_pos h]
    exact ⟨rfl, rfl, rfl, rfl, fun _ => rfl⟩
  · rw [if_neg h]
    exact ⟨rfl, rfl, rfl, by simpa using h, fun e => absurd e h⟩
theorem Sim.left (h : Sim p Q n) : leftOf p n = leftP (lawT Q n).wt (lawT Q n).fr (lawT Q n).b1 (lawT Q n).c1 (lawT Q n).t1 n := by
  unfold leftOf
  rw [h.at]
  obtain ⟨e1, e2, e3, e4, e5⟩ := nz_parts (lawT Q n)
  rw [e1, e2, e3, e4]
  funext i
  unfold leftP
  by_cases hw : (lawT Q n).wt = true
  · rw [if_pos hw, if_pos hw, e5 hw]
  · rw [if_neg hw, if_neg hw]
theorem Sim.chg (h : Sim p Q n) (b c : Int) (ts : List (Int × Int)) : p.chg b c ts n = nz ⟨(lawT Q n).b1, (lawT Q n).c1, (lawT Q n).t1, b, c, ts, (turnV b c ts (max n b)).1, true⟩ := by
  unfold PL.chg
  rw [h.at]
  obtain ⟨e1, e2, e3, _⟩ := nz_parts (lawT Q n)
  rw [e1, e2, e3]
  rfl
structure LOk (Q : PL) : Prop where
  c1 : chkV Q.b1 Q.c1 Q.t1 = 0
  c2 : Q.wt = true → chkV Q.b2 Q.c2 Q.t2 = 0
  f0 : 0 ≤ Q.fr
  f1 : Q.fr ≤ 4398046511104
theorem LOk.lt (h : LOk Q) (x : Int) : LOk (lawT Q x) := by
  unfold lawT
  split
  · rename_i hd
    exact ⟨h.c2 hd.1, (fun e => by cases e), h.f0, h.f1⟩
  · exact h
/-- What the law reckons for a gate. -/
theorem stay_left {b c x : Int} {ts : List (Int × Int)} (hz : chkV b c ts = 0) (hx : inT x) {i : Nat} (hi : i < 8) : (if rstayV c ts (gone b c x) i 1 = 2 * c then 2147483648 else rstayV c ts (gone b c x) i 1) = leftV b c ts x (i : Int) ∧ 0 ≤ rstayV c ts (gone b c x) i 1 ∧ rstayV c ts (gone b c x) i 1 ≤ 2147483648 := by
  have hg := chk_good hz
  have hc0 := hg.c0
  have hc1 := hg.c1
  have hb := leftV_bound (b := b) (c := c) (ts := ts) x (i : Int)
  rcases left_two (b := b) (c := c) (x := x) (ts := ts) ⟨hx, hz⟩ hi with ⟨e1, e2⟩ | ⟨e1, e2⟩
  · rw [if_pos e2, e1, e2]
    exact ⟨rfl, by omega, by omega⟩
  · rw [if_neg (by omega), e1]
    exact ⟨rfl, by omega, by omega⟩
end
set_option maxHeartbeats 1000000 in
theorem pput_nil (c x0 x1 : Int) (x2 : Bool) (W : World) : Calls Try.prog 13 #[.pointer none, .int .i64 c, .agg #[.int .i64 x0, .int .i64 x1, .bool x2]] W fun e w' => e = .returned (.int .i64 1) ∧ Below W.heap.size W w' := by
  have hb0 := bAl (bRef W) (.cells #[.int .i64 x0, .int .i64 x1, .bool x2] 35)
  have HB0 := Lib.hid (hb0.trans (bDr1 (bRef (W.alloc (.cells #[.int .i64 x0, .int .i64 x1, .bool x2] 35)) |>.mono (by simp))))
  have HW := Lib.hid (waiting_nil (W.alloc (.cells #[.int .i64 x0, .int .i64 x1, .bool x2] 35)).drew)
  have HP := Lib.hid (put_nil c (x0, x1, x2) (W.alloc (.cells #[.int .i64 x0, .int .i64 x1, .bool x2] 35)).drew)
  have hq := heap_alloc_one W (.cells #[.int .i64 x0, .int .i64 x1, .bool x2] 35)
  have HB : Hid ((W.alloc (.cells #[.int .i64 x0, .int .i64 x1, .bool x2] 35)).drew.cell? ⟨W.heap.size, 0, none⟩ = some (.int .i64 x0) ∧ (W.alloc (.cells #[.int .i64 x0, .int .i64 x1, .bool x2] 35)).drew.cell? ⟨W.heap.size, 1, none⟩ = some (.int .i64 x1) ∧ (W.alloc (.cells #[.int .i64 x0, .int .i64 x1, .bool x2] 35)).drew.cell? ⟨W.heap.size, 2, none⟩ = some (.bool x2)) := Lib.hid ⟨cell_of_row _ _ 0 _ _ _ hq, cell_of_row _ _ 1 _ _ _ hq, cell_of_row _ _ 2 _ _ _ hq⟩
  clear hq hb0
  go_enter Try.func13, Try.ntmps13
  go_wp2_with fail
  refine wp_region_held_drew (S := fun V => V.cell? ⟨W.heap.size, 0, none⟩ = some (.int .i64 x0) ∧ V.cell? ⟨W.heap.size, 1, none⟩ = some (.int .i64 x1) ∧ V.cell? ⟨W.heap.size, 2, none⟩ = some (.bool x2)) (by kernel_rfl) HB.out (fun h0 => ?_)
  refine hTakeS (i := 0) (k := 7) (v := .pointer none) rfl rfl (by kernel_rfl) (by kernel_rfl) (by kernel_rfl) (fun _ _ _ h => h) (yieldsIf_val (by rfl) (by intro W; go_simp)) h0 ?_
  simp only [List.setIfInBounds_toArray, List.set_cons_zero, List.set_cons_succ]
  refine hTakeS (i := 2) (k := 9) (v := .int .i64 c) rfl rfl (by kernel_rfl) (by kernel_rfl) (by kernel_rfl) (fun _ _ _ h => h) (yieldsIf_val (by rfl) (by intro W; go_simp)) h0 ?_
  simp only [List.setIfInBounds_toArray, List.set_cons_zero, List.set_cons_succ]
  refine hTakeS (i := 3) (k := 10) (v := .agg #[.int .i64 x0, .int .i64 x1, .bool x2]) rfl rfl (by kernel_rfl) (by kernel_rfl) (by kernel_rfl) (fun _ _ _ h => h) (.inl ⟨by rfl, fun W hW => by obtain ⟨b0, b1, b2⟩ := hW; go_simp⟩) h0 ?_
  simp only [List.setIfInBounds_toArray, List.set_cons_zero, List.set_cons_succ]
  refine hCallR (i := 1) (k := 8) (by kernel_rfl) rfl rfl (by rfl) 39 #[.pointer none] (by go_simp) (HW.out) ?_
  rintro e w1 ⟨rfl, rfl⟩
  refine ⟨_, rfl, h0, ?_⟩
  simp only [List.setIfInBounds_toArray, List.set_cons_zero, List.set_cons_succ]
  refine hCallR (i := 4) (k := 11) (by kernel_rfl) rfl rfl (by rfl) 19 #[.pointer none, .int .i64 c, .agg #[.int .i64 x0, .int .i64 x1, .bool x2]] (by go_simp) (HP.out) ?_
  rintro e w2 ⟨rfl, hb⟩
  have HR := Lib.hid (bTr HB0.out hb)
  have h1 := And.intro ((hb.cell (block_lt_cell h0.1)).trans h0.1) (And.intro ((hb.cell (block_lt_cell h0.2.1)).trans h0.2.1) ((hb.cell (block_lt_cell h0.2.2)).trans h0.2.2))
  clear hb
  refine ⟨_, rfl, h1, ?_⟩
  simp only [List.setIfInBounds_toArray, List.set_cons_zero, List.set_cons_succ]
  refine hTakeS (i := 5) (k := 6) (v := .int .i64 1) rfl rfl (by kernel_rfl) (by kernel_rfl) (by kernel_rfl) (fun _ _ _ h => h) (yieldsIf_val (by rfl) (by intro W; go_simp)) h1 ?_
  simp only [List.setIfInBounds_toArray, List.set_cons_zero, List.set_cons_succ]
  refine wpAnyH_done (by kernel_rfl) ?_ _
  go_wp2_with fail
  go_ret
  exact ⟨rfl, HR.out⟩
theorem pnext_nil (x : Int) (W : World) : Calls Try.prog 11 #[.pointer none, .int .i64 x] W fun e w' => e = .returned (.tuple #[.agg #[.int .i64 0, .int .i64 0, .bool false], .int .i64 0, .bool false]) ∧ Below W.heap.size W w' := by
  have h1 := heap_alloc_one W (.cells #[.int .i64 0, .int .i64 0, .bool false] 35)
  have H1 := Lib.hid h1
  have HB := Lib.hid (bAl (bRef W) (.cells #[.int .i64 0, .int .i64 0, .bool false] 35))
  clear h1
  go_enter Try.func11, Try.ntmps11
  go_wp2_with fail
  exact bodyNext rfl rfl rfl H1.out rfl ⟨rfl, HB.out⟩

end Go.Proofs.Ytlpijhopllhccaa
