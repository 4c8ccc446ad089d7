/- Ints that are read; bytes of the call's own, none at the start. -/
import Derived.Test.YtcdcklkbjfhhnaaGCopy
namespace Go.Proofs.Ytcdcklkbjfhhnaa
open Go.RowKit Go.Joins

/-- An int that fits. -/
def In64 (x : Int) : Prop := -9223372036854775808 ≤ x ∧ x < 9223372036854775808
def RdL (w : World) (b o : Nat) (xs : List Int) : Prop :=
  0 < xs.length → b < w.heap.size ∧ ∀ k, k < xs.length → w.cell? ⟨b, o + k, none⟩ = some (.int .i64 (xs.getD k 0))
/-- The value's elements are these ints. -/
def LArg (w : World) (v : Value) (xs : List Int) : Prop :=
  (∀ x ∈ xs, In64 x) ∧
  ((xs = [] ∧ ∃ a c, v = .slice a 0 c ∧ (a = none → c = 0)) ∨
   (0 < xs.length ∧ ∃ b o c, v = .slice (some ⟨b, o, none⟩) xs.length c ∧ xs.length ≤ c ∧ RdL w b o xs))
theorem in_getD {xs : List Int} (h : ∀ x ∈ xs, In64 x) (k : Nat) : In64 (xs.getD k 0) := by
  rw [List.getD_eq_getElem?_getD]
  rcases Nat.lt_or_ge k xs.length with hk | hk
  · rw [List.getElem?_eq_getElem hk]; exact h _ (List.getElem_mem hk)
  · rw [List.getElem?_eq_none hk]; exact ⟨by decide, by decide⟩
theorem take_snocI {xs : List Int} {k : Nat} (h : k < xs.length) : xs.take (k + 1) = xs.take k ++ [xs.getD k 0] := by
  rw [List.take_succ_eq_append_getElem h]; simp [List.getD_eq_getElem?_getD, h]
section
variable {w w' : World} {b o : Nat} {v : Value} {xs : List Int}
theorem RdL.below (h : RdL w b o xs) (hb : Below w.heap.size w w') : RdL w' b o xs := fun h0 => by
  obtain ⟨hlt, hc⟩ := h h0
  exact ⟨Nat.lt_of_lt_of_le hlt hb.size, fun k hk => (hb.cell hlt).trans (hc k hk)⟩
theorem LArg.below (h : LArg w v xs) (hb : Below w.heap.size w w') : LArg w' v xs := by
  obtain ⟨h1, h2⟩ := h
  refine ⟨h1, ?_⟩
  rcases h2 with h2 | ⟨h3, b, o, c, e, hc, hr⟩
  · exact .inl h2
  · exact .inr ⟨h3, b, o, c, e, hc, hr.below hb⟩
theorem LArg.slice (h : LArg w v xs) : ∃ p c, v = .slice p xs.length c := by
  rcases h.2 with ⟨rfl, p, c, rfl, _⟩ | ⟨_, b, o, c, rfl, _⟩
  · exact ⟨p, c, rfl⟩
  · exact ⟨_, c, rfl⟩
end

/-- All that is no row of bytes is as it was. -/
def Oth (w w' : World) : Prop := ∀ (k : Nat) (cs : Array Value) (t : TypeId) (fr : Nat × Nat), w.heap[k]? = some (.cells cs t fr) → t ≠ 5 → w'.heap[k]? = some (.cells cs t fr)
theorem Oth.refl (w : World) : Oth w w := fun _ _ _ _ h _ => h
theorem Oth.trans {w w1 w2 : World} (h : Oth w w1) (k : Oth w1 w2) : Oth w w2 := fun i cs t fr hi ht => k i cs t fr (h i cs t fr hi ht) ht
theorem Oth.below {w w1 : World} (h : Below w.heap.size w w1) : Oth w w1 := fun i cs t fr hi _ => by
  rw [h.block i (by rcases Nat.lt_or_ge i w.heap.size with g | g; exact g; rw [Array.getElem?_eq_none g] at hi; cases hi), hi]

/-- The call's own bytes; or none yet. -/
def OwnN (w0 w : World) (v : Value) (os : List Nat) : Prop :=
  w.ownsRow w0.heap.size 5 1 v os.length (bv os) ∧ Below w0.heap.size w0 w ∧ Crc.Bytes os
theorem OwnB.n {w0 w : World} {v : Value} {os : List Nat} (h : OwnB w0 w v os) : OwnN w0 w v os := ⟨h.1, h.2.1, h.2.2.1⟩
theorem OwnN.b {w0 w : World} {v : Value} {os : List Nat} (h : OwnN w0 w v os) (hn : os ≠ []) : OwnB w0 w v os := by
  refine ⟨h.1, h.2.1, h.2.2, fun e => ?_⟩
  rcases h.1.2 with ⟨_, hz⟩ | ⟨g, cap, cur, e2, _⟩
  · exact hn (List.eq_nil_of_length_eq_zero hz)
  · rw [e2] at e; cases e
theorem OwnN.start {w0 w : World} (h : Below w0.heap.size w0 w) : OwnN w0 w (.slice none 0 0) [] :=
  ⟨⟨rfl, .inl ⟨rfl, rfl⟩⟩, h, fun x hx => by simp at hx⟩
theorem OwnN.bel {w0 w : World} {v : Value} {os : List Nat} (h : OwnN w0 w v os) : Below w0.heap.size w0 w := h.2.1
theorem OwnN.below {w0 w w' : World} {v : Value} {os : List Nat} (h : OwnN w0 w v os) (hb : Below w.heap.size w w') : OwnN w0 w' v os := by
  refine ⟨⟨h.1.1, ?_⟩, h.2.1.trans (hb.mono h.2.1.size), h.2.2⟩
  rcases h.1.2 with ⟨rfl, hz⟩ | ⟨g, cap, cur, rfl, h1, hg, h3⟩
  · exact .inl ⟨rfl, hz⟩
  · exact .inr ⟨g, cap, cur, rfl, h1, (hb.block g (h.1.lt g (by simp [Value.ownBlock])).2).trans hg, h3⟩
theorem OwnN.alloc {w0 w : World} {v : Value} {os : List Nat} (h : OwnN w0 w v os) (o : Obj) : OwnN w0 (w.alloc o) v os := h.below (bAl (bRef w) o)
theorem ownN_eq {w0 w : World} {v : Value} {a c : List Nat} (h : OwnN w0 w v a) (e : a = c) : OwnN w0 w v c := e ▸ h

/-- The law of an append to what the call owns: what else is kept. -/
theorem wpList_appn {ops : Array Oper} {rest : List Oper} {o : Oper} {a : Act} {Q : Exit → Act → World → Prop} (hgd : o.guard = none) (s x : Operand)
    (ho : o.op = .call { callee := .builtin .append, args := #[s, x], argTypes := #[30, 30] })
    (w0 w : World) (v u : Value) (os xs : List Nat) (hs : a.eval s = v) (hx : a.eval x = u) (hown : OwnN w0 w v os) (harg : BArg w u xs) (hl : os.length + xs.length ≤ 140737488355328)
    (h : ∀ v' w', OwnN w0 w' v' (os ++ xs) → Oth w w' → wpList Try.prog ops Q rest (a.put o.dst v') w') : wpList Try.prog ops Q (o :: rest) a w := by
  obtain ⟨i0, hi, hz0, hz1, hz2⟩ := info_parts Try.infoU8
  have hb0 := hown.bel
  have hblk : ∀ k, v.ownBlock = some k → ∃ cs fr, w.heap[k]? = some (.cells cs 5 fr) := by
    intro k hk
    rcases hown.1.2 with ⟨e, _⟩ | ⟨g, cap, cur, e, _, hg, _⟩
    · subst e; simp [Value.ownBlock] at hk
    · subst e
      simp [Value.ownBlock] at hk
      subst hk
      exact ⟨_, _, hg⟩
  have key : ∀ ad m c, u = .slice (some ad) m c → m = xs.length → (∀ j e, (bv xs)[j]? = some e → w.cell? (ad.add j) = some e) → wpList Try.prog ops Q (o :: rest) a w := by
    intro ad m c hu hm hc
    subst hm
    refine wpList_append_own w hgd s x 30 ho w0.heap.size 5 i0 (.int .u8 0) 1 1 Try.underlying30 hi hz0 hz1 hz2 rfl (by decide) v os.length (bv os) hs hown.1 ad xs.length c (bv xs) (hx.trans hu) (by rw [bv_len]; omega) hc (bv_one xs) (by unfold maxLen; omega) (by omega) hb0.size ?_
    intro v' w' h1 h2 h3
    refine h v' w' ⟨?_, hb0.grown h2 hb0.size (fun k hk => (hown.1.lt k hk).1), bytes_app hown.2.2 harg.1⟩ ?_
    · have e : bv (os ++ xs) = bv os ++ bv xs := by simp [bv]
      rw [e, List.length_append]
      exact h1
    · intro k cs t fr hk ht
      rw [h2.block k (by rcases Nat.lt_or_ge k w.heap.size with g | g; exact g; rw [Array.getElem?_eq_none g] at hk; cases hk) (fun e => ?_), hk]
      obtain ⟨cs2, fr2, h5⟩ := hblk k e.symm
      rw [hk] at h5
      injection h5 with h6
      injection h6 with _ h7 _
      exact ht h7
  rcases harg.2 with ⟨rfl, p, c, rfl, hp⟩ | ⟨h0, b, o', c, rfl, hc, hr⟩
  · cases p with
    | some ad => exact key ad 0 c rfl rfl (fun j e he => by simp [bv] at he)
    | none =>
      obtain rfl := hp rfl
      refine wpList_append_own_none hgd s x 30 ho w0.heap.size 5 i0 1 Try.underlying30 hi v os.length (bv os) hs hown.1 hx ?_
      have := h v w (by rw [List.append_nil]; exact hown) (Oth.refl w)
      exact this
  · refine key _ _ c rfl rfl (fun j e he => ?_)
    have hj : j < xs.length := by
      have := (List.getElem?_eq_some_iff.1 he).1
      rwa [bv_len] at this
    rw [bv_at hj] at he
    rw [addr_add2, (hr h0).2 j hj]
    exact he

/-- Ints in a row of their own. -/
def IRow (w : World) (g : Nat) (ys : List Int) : Prop := ∃ fr, w.heap[g]? = some (.cells (ys.map (Value.int .i64)).toArray 3 fr)
theorem IRow.oth {w w' : World} {g : Nat} {ys : List Int} (h : IRow w g ys) (ho : Oth w w') : IRow w' g ys := by
  obtain ⟨fr, h⟩ := h
  exact ⟨fr, ho g _ _ fr h (by decide)⟩
theorem IRow.new (w : World) (ys : List Int) (cs : Array Value) (h : cs = (ys.map (Value.int .i64)).toArray) : IRow (w.alloc (.cells cs 3)) w.heap.size ys := ⟨_, by rw [h]; exact heap_alloc_new w _⟩
theorem IRow.arg {w : World} {g c : Nat} {ys : List Int} (h : IRow w g ys) (hy : ∀ x ∈ ys, In64 x) (hc : ys.length ≤ c) : LArg w (.slice (some ⟨g, 0, none⟩) ys.length c) ys := by
  obtain ⟨fr, h⟩ := h
  refine ⟨hy, ?_⟩
  rcases Nat.eq_zero_or_pos ys.length with h0 | h0
  · exact .inl ⟨List.eq_nil_of_length_eq_zero h0, _, c, by rw [h0], fun e => by cases e⟩
  · refine .inr ⟨h0, g, 0, c, rfl, hc, fun _ => ⟨?_, fun k hk => ?_⟩⟩
    · rcases Nat.lt_or_ge g w.heap.size with hl | hl
      · exact hl
      · rw [Array.getElem?_eq_none hl] at h; cases h
    · rw [Nat.zero_add, cell_of_row w g k _ _ _ h]
      simp [List.getD_eq_getElem?_getD, List.getElem?_eq_getElem hk]

end Go.Proofs.Ytcdcklkbjfhhnaa
