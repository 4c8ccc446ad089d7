/- The laws of package best: the arguments, and plain facts of what is chosen. -/
import Derived.Test.YtholemjbjmkpkaaBtHead
import Derived.Test.YtholemjbjmkpkaaS11Arg
namespace Go.Proofs.Ytholemjbjmkpkaa
open Go.RowKit Go.Joins Go.Deep

theorem harg_of {w : World} {v : Value} {n : Nat} (h : SlArg 10 OkbestHeard w v n) : ∃ F, HArg w v n F := by
  rcases h with ⟨rfl, a, c, rfl⟩ | ⟨h0, b, o, c, F, rfl, hb, hF⟩
  · exact ⟨fun _ => ⟨false, false, ⟨⟨0, 0, 0, 0⟩, 0, 0, 0, 0⟩⟩, .inl ⟨rfl, a, c, rfl⟩⟩
  · have each : ∀ k, k < n → ∃ h : Hd, F k = (HC h).toList := fun k hk => by
      obtain ⟨z0, z1, z2, z3, z4, z5, z6, z7, z8, z9, e, _⟩ := (hF k hk).1
      exact ⟨⟨z0, z1, ⟨⟨z2, z3, z4, z5⟩, z6, z7, z8, z9⟩⟩, e⟩
    have : Inhabited Hd := ⟨⟨false, false, ⟨⟨0, 0, 0, 0⟩, 0, 0, 0, 0⟩⟩⟩
    obtain ⟨G, hG⟩ := choose_lt each
    refine ⟨G, .inr ⟨h0, b, o, c, rfl, hb, fun k hk j x hj => ?_⟩⟩
    have hl : j < 10 := by have := (List.getElem?_eq_some_iff.1 hj).1; simpa [HC] using this
    rw [(hF k hk).2.2 j hl, hG k hk]
    exact hj
/-- A port has heard of a better clock than the own one. -/
def Hd.good (p : Pri) (h : Hd) : Bool := (h.up && h.ok) && decide (h.v.r.cmp p < 0)
theorem takeB_good (p : Pri) (c : Vc) (k : Nat) (h : Hd) : takeB p c k h = (h.good p && decide ((atV h.v k).cmp c < 0)) := rfl
theorem chs_none (p : Pri) (F : Nat → Hd) : ∀ n, (∀ k, k < n → (F k).good p = false) → chs p F n = own0 p
  | 0, _ => rfl
  | n + 1, h => by
    rw [chs_succ, takeB_good, h n (by omega), Bool.false_and, if_neg (by decide)]
    exact chs_none p F n (fun k hk => h k (by omega))
theorem atV_r (v : Vc) (k : Int) : (atV v k).r = v.r := rfl
theorem own0_r (p : Pri) : (own0 p).r = p := rfl
theorem cmp_own0 {p : Pri} {v : Vc} (h : v.r.cmp p < 0) : v.cmp (own0 p) < 0 := by
  rw [Vc.cmp_eq, own0_r, if_neg (by omega)]; exact h
theorem vcmp_root {a b : Vc} (h : a.cmp b ≤ 0) : a.r.cmp b.r ≤ 0 := by
  rw [Vc.cmp_eq] at h
  split at h <;> omega
/-- Either none is better than the own clock, or the chosen one is one of them, and no worse than any. -/
theorem chs_inv (p : Pri) (F : Nat → Hd) : ∀ n, ((∀ j, j < n → (F j).good p = false) ∧ chs p F n = own0 p) ∨
    ((∃ j, j < n ∧ (F j).good p = true ∧ chs p F n = atV (F j).v j) ∧ ∀ j, j < n → (F j).good p = true → (chs p F n).cmp (atV (F j).v j) ≤ 0)
  | 0 => .inl ⟨fun j hj => by omega, rfl⟩
  | n + 1 => by
    have ih := chs_inv p F n
    rw [chs_succ, takeB_good]
    cases hg : (F n).good p with
    | false =>
      rw [Bool.false_and, if_neg (by decide)]
      rcases ih with ⟨h1, h2⟩ | ⟨⟨j, h1, h2, h3⟩, h4⟩
      · refine .inl ⟨fun j hj => ?_, h2⟩
        rcases Nat.lt_or_eq_of_le (Nat.lt_succ_iff.1 hj) with h | rfl
        · exact h1 j h
        · exact hg
      · refine .inr ⟨⟨j, by omega, h2, h3⟩, fun i hi hgi => ?_⟩
        rcases Nat.lt_or_eq_of_le (Nat.lt_succ_iff.1 hi) with h | rfl
        · exact h4 i h hgi
        · rw [hg] at hgi; cases hgi
    | true =>
      rw [Bool.true_and]
      by_cases hc : (atV (F n).v n).cmp (chs p F n) < 0
      · rw [if_pos (decide_eq_true hc)]
        refine .inr ⟨⟨n, by omega, hg, rfl⟩, fun i hi hgi => ?_⟩
        rcases Nat.lt_or_eq_of_le (Nat.lt_succ_iff.1 hi) with h | rfl
        · rcases ih with ⟨h1, h2⟩ | ⟨⟨j, h1, h2, h3⟩, h4⟩
          · rw [h1 i h] at hgi; cases hgi
          · exact Int.le_of_lt (lx_lt_le (l := (atV (F n).v n).row) (m := (chs p F n).row) (n := (atV (F i).v i).row) rfl rfl hc (h4 i h hgi))
        · exact Int.le_of_eq (lx_self _)
      · rw [if_neg (by simpa using hc)]
        rcases ih with ⟨h1, h2⟩ | ⟨⟨j, h1, h2, h3⟩, h4⟩
        · exfalso
          apply hc
          rw [h2]
          unfold Hd.good at hg
          exact cmp_own0 (by rw [atV_r]; simp at hg; exact hg.2)
        · refine .inr ⟨⟨j, by omega, h2, h3⟩, fun i hi hgi => ?_⟩
          rcases Nat.lt_or_eq_of_le (Nat.lt_succ_iff.1 hi) with h | rfl
          · exact h4 i h hgi
          · have := lx_anti (chs p F i).row (atV (F i).v i).row
            unfold Vc.cmp at hc ⊢
            omega
theorem rolesL_at (id : Int) (c : Vc) (F : Nat → Hd) (n k : Nat) (hk : k < n) : (IC (rolesL id c F n))[k]? = some (.int .i64 (roleV id c k (F k))) := by
  unfold IC rolesL
  simp [hk]
/-- The own clock's box, while a law goes on. -/
structure LawW (w : World) (p : Pri) (wr : World) : Prop where
  bel : Below w.heap.size w wr
  own : wr.heap[w.heap.size]? = some (.cells (PC p) 23 (0, 0))
theorem LawW.below {w W W' : World} {p : Pri} (h : LawW w p W) (hb : Below W.heap.size W W') : LawW w p W' := ⟨bTr h.bel hb, (hb.block _ (lt_of_heap h.own)).trans h.own⟩
theorem LawW.start (w : World) (p : Pri) : LawW w p (w.alloc (.cells (PC p) 23)) := ⟨bAl (bRef w) _, heap_alloc_new w _⟩
/-- And what was chosen, in its box at b, with the row at g. -/
structure LawC (w : World) (p : Pri) (c : Vc) (b g : Nat) (l : List Int) (wr : World) : Prop where
  law : LawW w p wr
  chn : wr.heap[b]? = some (.cells (VC c) 25 (0, 0))
  row : wr.heap[g]? = some (.cells (IC l) 3 (0, 0))
theorem LawC.below {w W W' : World} {p : Pri} {c : Vc} {b g : Nat} {l : List Int} (h : LawC w p c b g l W) (hb : Below W.heap.size W W') : LawC w p c b g l W' := ⟨h.law.below hb, (hb.block _ (lt_of_heap h.chn)).trans h.chn, (hb.block _ (lt_of_heap h.row)).trans h.row⟩
theorem LawC.start {w W W1 : World} {p : Pri} {c : Vc} {g : Nat} {l : List Int} (h : LawW w p W) (hb : Below W.heap.size W W1) (hr : W1.heap[g]? = some (.cells (IC l) 3 (0, 0))) : LawC w p c W1.heap.size g l (W1.alloc (.cells (VC c) 25)) :=
  ⟨h.below (bTr hb (bAl (bRef _) _)), heap_alloc_new W1 _, ((bAl (bRef _) _).block _ (lt_of_heap hr)).trans hr⟩

/-- The clock in the head of what a port has heard. -/
theorem hhead (up ok : Bool) (v : Vc) : ∀ j x, (PC v.r).toList[j]? = some x → (HC ⟨up, ok, v⟩)[2 + j]? = some x := by
  intro j x h
  match j, h with
  | 0, h => exact h
  | 1, h => exact h
  | 2, h => exact h
  | 3, h => exact h
  | n + 4, h => simp [PC] at h

end Go.Proofs.Ytholemjbjmkpkaa
