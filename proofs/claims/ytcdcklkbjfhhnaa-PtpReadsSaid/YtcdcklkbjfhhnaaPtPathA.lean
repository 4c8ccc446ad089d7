/- Ints of the call's own, appended one by one; none at the start. -/
import Derived.Test.YtcdcklkbjfhhnaaPtReadA
import Derived.Deep.RegionLaw
namespace Go.Proofs.Ytcdcklkbjfhhnaa
open Go.RowKit Go.Joins

theorem Try.infoI : (Try.prog.info? 3).map (fun i => (i.zero, i.size, i.bytes)) = some (some (.int .i64 0), 1, 8) := by kernel_rfl
def iv (ps : List Int) : List Value := ps.map (Value.int .i64)
theorem iv_len (ps : List Int) : (iv ps).length = ps.length := by simp [iv]
/-- The call's own ints, or none. -/
def OwnI (B : Nat) (w : World) (v : Value) (ps : List Int) : Prop := w.ownsRow B 3 1 v ps.length (iv ps) ∧ (∀ x ∈ ps, In64 x) ∧ B ≤ w.heap.size
/-- All that is no row of ints is as it was. -/
def OthI (w w' : World) : Prop := ∀ (k : Nat) (cs : Array Value) (t : TypeId) (fr : Nat × Nat), w.heap[k]? = some (.cells cs t fr) → t ≠ 3 → w'.heap[k]? = some (.cells cs t fr)
theorem OwnI.nil {B : Nat} {w : World} (h : B ≤ w.heap.size) : OwnI B w (.slice none 0 0) [] := ⟨⟨rfl, .inl ⟨rfl, rfl⟩⟩, fun x hx => by simp at hx, h⟩
theorem OwnI.form {B : Nat} {w : World} {v : Value} {ps : List Int} (h : OwnI B w v ps) : ∃ p n c, v = .slice p n c := by
  rcases h.1.2 with ⟨e, _⟩ | ⟨g, cap, cur, e, _⟩
  · exact ⟨_, _, _, e⟩
  · exact ⟨_, _, _, e⟩
theorem OwnI.arg {B : Nat} {w : World} {v : Value} {ps : List Int} (h : OwnI B w v ps) : LArg w v ps := by
  refine ⟨h.2.1, ?_⟩
  rcases h.1.2 with ⟨rfl, hz⟩ | ⟨g, cap, cur, rfl, _, hg, hn, _, hs, hcur⟩
  · exact .inl ⟨List.eq_nil_of_length_eq_zero hz, none, 0, rfl, fun _ => rfl⟩
  · rcases Nat.eq_zero_or_pos ps.length with h0 | h0
    · exact .inl ⟨List.eq_nil_of_length_eq_zero h0, some ⟨g, 0, none⟩, cap, by rw [h0], fun e => by cases e⟩
    · refine .inr ⟨h0, g, 0, cap, rfl, hn, fun _ => ⟨?_, fun k hk => ?_⟩⟩
      · rcases Nat.lt_or_ge g w.heap.size with hl | hl
        · exact hl
        · rw [Array.getElem?_eq_none hl] at hg; cases hg
      · rw [Nat.zero_add, h.1.cellAt k (by rw [Nat.mul_one]; exact hk)]
        simp [iv, List.getD_eq_getElem?_getD, List.getElem?_eq_getElem hk]
theorem OwnI.keep {B : Nat} {w w' : World} {v : Value} {ps : List Int} (h : OwnI B w v ps) (hs : w.heap.size ≤ w'.heap.size) (hk : ∀ (i : Nat) (cs : Array Value) (t : TypeId) (fr : Nat × Nat), w.heap[i]? = some (.cells cs t fr) → t = 3 → w'.heap[i]? = some (.cells cs t fr)) : OwnI B w' v ps := by
  refine ⟨⟨h.1.1, ?_⟩, h.2.1, Nat.le_trans h.2.2 hs⟩
  rcases h.1.2 with ⟨rfl, hz⟩ | ⟨g, cap, cur, rfl, h1, hg, h3⟩
  · exact .inl ⟨rfl, hz⟩
  · exact .inr ⟨g, cap, cur, rfl, h1, hk _ _ _ _ hg rfl, h3⟩
theorem OwnI.below {B : Nat} {w w' : World} {v : Value} {ps : List Int} (h : OwnI B w v ps) (hb : Below w.heap.size w w') : OwnI B w' v ps :=
  h.keep hb.size fun i cs t fr hi _ => by
    rw [hb.block i (by rcases Nat.lt_or_ge i w.heap.size with g | g; exact g; rw [Array.getElem?_eq_none g] at hi; cases hi), hi]
theorem OwnI.but {B gm gr : Nat} {w w' : World} {v : Value} {ps : List Int} (h : OwnI B w v ps) (hb : But2 gm gr w w') {c1 c2 : Array Value} {t1 t2 : TypeId} {f1 f2 : Nat × Nat} (h1 : w.heap[gm]? = some (.cells c1 t1 f1)) (h2 : w.heap[gr]? = some (.cells c2 t2 f2)) (ht1 : t1 ≠ 3) (ht2 : t2 ≠ 3) : OwnI B w' v ps :=
  h.keep (Nat.le_of_eq hb.1.symm) fun i cs t fr hi ht => by
    rw [hb.2 i ?_ ?_]; exact hi
    · rintro rfl
      rw [h1] at hi; injection hi with hi; injection hi with _ hi _; exact ht1 (hi.trans ht)
    · rintro rfl
      rw [h2] at hi; injection hi with hi; injection hi with _ hi _; exact ht2 (hi.trans ht)
theorem OwnI.put {B : Nat} {w : World} {v : Value} {ps : List Int} (h : OwnI B w v ps) {g i : Nat} {x : Value} {c1 : Array Value} {t1 : TypeId} {f1 : Nat × Nat} (h1 : w.heap[g]? = some (.cells c1 t1 f1)) (ht1 : t1 ≠ 3) : OwnI B (w.setCell ⟨g, i, none⟩ x) v ps :=
  h.keep (by simp) fun j cs t fr hj ht => by
    rw [heap_setCell_other w _ j x ?_]; exact hj
    rintro rfl
    rw [h1] at hj; injection hj with hj; injection hj with _ hj _; exact ht1 (hj.trans ht)
theorem OwnI.row {B : Nat} {w : World} {v : Value} {ps : List Int} (h : OwnI B w v ps) {g : Nat} (cs' : Array Value) {c1 : Array Value} {t1 : TypeId} {f1 : Nat × Nat} (h1 : w.heap[g]? = some (.cells c1 t1 f1)) (ht1 : t1 ≠ 3) : OwnI B (w.setRow g cs') v ps :=
  h.keep (by rw [setRow_siz]; exact Nat.le_refl _) fun j cs t fr hj ht => by
    rw [setRow_off w g j cs' ?_]; exact hj
    rintro rfl
    rw [h1] at hj; injection hj with hj; injection hj with _ hj _; exact ht1 (hj.trans ht)

/-- An append of one int to what the call owns, as one operation. -/
theorem wp_appI {o : Oper} {a : Act} {K : Act → World → Prop} {Q : Exit → Act → World → Prop} (s x : Operand)
    (ho : o.op = .call { callee := .builtin .append, args := #[s, x], argTypes := #[26, 26] })
    (B : Nat) (w : World) (v : Value) (g : Nat) (ps : List Int) (z : Int) (hs : a.eval s = v) (hx : a.eval x = .slice (some ⟨g, 0, none⟩) 1 1) (hown : OwnI B w v ps) (hg : ∃ fr, w.heap[g]? = some (.cells #[.int .i64 z] 3 fr)) (hz : In64 z) (hl : ps.length ≤ 1000)
    (h : ∀ v' w', OwnI B w' v' (ps ++ [z]) → OthI w w' → Below B w w' → K (a.put o.dst v') w') : o.wp Try.prog a w K Q := by
  obtain ⟨i0, hi, hz0, hz1, hz2⟩ := info_parts Try.infoI
  obtain ⟨fr, hg⟩ := hg
  have hblk : ∀ k, v.ownBlock = some k → ∃ cs fr, w.heap[k]? = some (.cells cs 3 fr) := by
    intro k hk
    rcases hown.1.2 with ⟨e, _⟩ | ⟨g, cap, cur, e, _, hg, _⟩
    · subst e; simp [Value.ownBlock] at hk
    · subst e
      simp [Value.ownBlock] at hk
      subst hk
      exact ⟨_, _, hg⟩
  refine wp_append_own w s x 26 ho B 3 i0 (.int .i64 0) 1 8 Try.underlying26 hi hz0 hz1 hz2 rfl (by decide) v ps.length (iv ps) hs hown.1 ⟨g, 0, none⟩ 1 1 (iv [z]) hx (by simp [iv]) (fun j e he => ?_) (fun u hu => by simp [iv] at hu; subst hu; rfl) (by unfold maxLen; omega) (by omega) hown.2.2 ?_
  · have hj : j = 0 := by
      have := (List.getElem?_eq_some_iff.1 he).1
      simp [iv] at this; exact this
    subst hj
    rw [addr_add2, cell_of_row w g _ _ _ _ hg]
    simpa [iv] using he
  · intro v' w' h1 h2 h3
    refine h v' w' ⟨?_, fun y hy => (List.mem_append.1 hy).elim (hown.2.1 y) (fun e => by simp at e; rw [e]; exact hz), Nat.le_trans hown.2.2 h2.size⟩ ?_ ((Below.refl B w).grown h2 hown.2.2 (fun k hk => (hown.1.lt k hk).1))
    · have e : iv (ps ++ [z]) = iv ps ++ iv [z] := by simp [iv]
      rw [e, List.length_append]
      exact h1
    · intro k cs t fr hk ht
      rw [h2.block k (by rcases Nat.lt_or_ge k w.heap.size with g | g; exact g; rw [Array.getElem?_eq_none g] at hk; cases hk) (fun e => ?_), hk]
      obtain ⟨cs2, fr2, h5⟩ := hblk k e.symm
      rw [hk] at h5
      injection h5 with h6
      injection h6 with _ h7 _
      exact ht h7
theorem step_appI {ops : Array Oper} {o : Oper} {a : Act} {K : Act → World → Prop} {Q : Exit → Act → World → Prop} {E : Prop} (hgd : o.guard = none) (s x : Operand)
    (ho : o.op = .call { callee := .builtin .append, args := #[s, x], argTypes := #[26, 26] })
    (B : Nat) (w : World) (v : Value) (g : Nat) (ps : List Int) (z : Int) (hs : a.eval s = v) (hx : a.eval x = .slice (some ⟨g, 0, none⟩) 1 1) (hown : OwnI B w v ps) (hg : ∃ fr, w.heap[g]? = some (.cells #[.int .i64 z] 3 fr)) (hz : In64 z) (hl : ps.length ≤ 1000)
    (h : ∀ v' w', OwnI B w' v' (ps ++ [z]) → OthI w w' → Below B w w' → K (a.put o.dst v') w') : if Region.wanted o (yielded ops a.tmps) = true then Oper.wp Try.prog o a w K Q else E := by
  rw [if_pos (by simp [Region.wanted, hgd])]
  exact wp_appI s x ho B w v g ps z hs hx hown hg hz hl h

section
variable {w0 W wc wc' : World} {b o gm gr : Nat} {xs : List Nat} {s s' : St} {m m' : Mg} {v v' : Value}
theorem RS.app (h : RS w0 b o xs gm gr W s m v wc) (ho : OthI wc wc') (hb : Below W.heap.size wc wc') : RS w0 b o xs gm gr W s m v wc' := by
  obtain ⟨⟨k1, ⟨oo, c, k2, hc⟩, k3, k4⟩, h2, h3, h4, h5, h6, h7⟩ := h
  exact ⟨⟨ho _ _ _ _ k1 (by decide), ⟨oo, c, ho _ _ _ _ k2 (by decide), hc⟩, k3.trans (hb.mono h7), k4⟩, ho _ _ _ _ h2 (by decide), ho _ _ _ _ h3 (by decide), ⟨Nat.le_trans h4.1 hb.size, fun i a1 a2 a3 => (hb.block i a1).trans (h4.2 i a1 a2 a3)⟩, h5, h6, h7⟩
theorem RS.below (h : RS w0 b o xs gm gr W s m v wc) (hb : Below wc.heap.size wc wc') : RS w0 b o xs gm gr W s m v wc' := by
  obtain ⟨h1, h2, h3, h4, h5⟩ := h
  exact ⟨h1.below hb, h2.below hb, Oth.below hb _ _ _ _ h3 (by decide), h4.below hb, h5⟩
end

end Go.Proofs.Ytcdcklkbjfhhnaa
