/- Rows of a law's own that grow by one: any struct. -/
import Derived.Test.YtholemjbjmkpkaaBtLaw
namespace Go.Proofs.Ytholemjbjmkpkaa
open Go.RowKit Go.Joins Go.Deep

section
variable {α : Type}
def fl (C : α → Array Value) (L : List α) : List Value := L.flatMap fun x => (C x).toList
theorem fl_len (C : α → Array Value) (m : Nat) (hC : ∀ x, (C x).size = m) : ∀ L, (fl C L).length = L.length * m
  | [] => by simp [fl]
  | x :: L => by
    have := fl_len C m hC L
    unfold fl at this ⊢
    rw [List.flatMap_cons, List.length_append, this, List.length_cons, Nat.add_mul, Array.length_toList, hC]; omega
theorem fl_at (C : α → Array Value) (m : Nat) (hC : ∀ x, (C x).size = m) : ∀ (L : List α) (k j : Nat) (x : α), L[k]? = some x → j < m → (fl C L)[k * m + j]? = (C x).toList[j]?
  | [], k, j, x, h, _ => by simp at h
  | y :: L, 0, j, x, h, hj => by
    simp at h
    subst h
    unfold fl
    rw [List.flatMap_cons, List.getElem?_append_left (by rw [Array.length_toList, hC]; omega)]
    simp
  | y :: L, k + 1, j, x, h, hj => by
    have := fl_at C m hC L k j x (by simpa using h) hj
    unfold fl at this ⊢
    rw [List.flatMap_cons, List.getElem?_append_right (by rw [Array.length_toList, hC, Nat.add_mul]; omega), Array.length_toList, hC, show (k + 1) * m + j - m = k * m + j by rw [Nat.add_mul]; omega, this]
theorem fl_app (C : α → Array Value) (L M : List α) : fl C (L ++ M) = fl C L ++ fl C M := by unfold fl; rw [List.flatMap_append]
theorem fl_one (C : α → Array Value) (x : α) : fl C [x] = (C x).toList := by unfold fl; simp
/-- A row of the law's own, of structs. -/
def OwnR (C : α → Array Value) (e : TypeId) (m B : Nat) (w : World) (v : Value) (L : List α) : Prop := w.ownsRow B e m v L.length (fl C L)
theorem row_lt {W : World} {B e sz n k : Nat} {v : Value} {xs : List Value} (h : W.ownsRow B e sz v n xs) (hk : v.ownBlock = some k) : B ≤ k ∧ k < W.heap.size := by
  rcases h.2 with ⟨rfl, _⟩ | ⟨g, cap, cur, rfl, hb, hg, _⟩
  · simp [Value.ownBlock] at hk
  · simp [Value.ownBlock] at hk
    subst hk
    exact ⟨hb, lt_of_heap hg⟩
theorem own_ne {w : World} {B e sz n : Nat} {xs : List Value} {v : Value} {q : Nat} {cs : Array Value} {t : TypeId} {fr : Nat × Nat} (h : w.ownsRow B e sz v n xs) (hq : w.heap[q]? = some (.cells cs t fr)) (ht : t ≠ e) : some q ≠ v.ownBlock := by
  rcases h.2 with ⟨rfl, hz⟩ | ⟨g, cap, cur, rfl, a1, hg, a3⟩
  · intro e; cases e
  · intro e
    injection e with e
    subst e
    rw [hg] at hq
    injection hq with hq
    injection hq with _ hq _
    exact ht hq.symm
theorem grown_below {w w' : World} {B e sz n : Nat} {xs : List Value} {v : Value} (h : w.ownsRow B e sz v n xs) (hg : w.grownBy w' v.ownBlock) (hB : B ≤ w.heap.size) : Below B w w' :=
  ⟨hg.os, hg.tape, hg.output, hg.size, fun k hk => hg.block k (by omega) (fun e => by have := (row_lt h e.symm).1; omega)⟩
theorem wpList_app1 (C : α → Array Value) (m by_ : Nat) (e t : TypeId) {z : Value} (hinf : (Try.prog.info? e).map (fun i => (i.zero, i.size, i.bytes)) = some (some z, m, by_)) (ht : Try.prog.underlying t = some (.slice e)) (hzs : z.cells.size = m) (hm : 0 < m) (hby : by_ ≤ 100000) (hC : ∀ x, (C x).size = m) (hone : ∀ x, (C x).all (·.oneCell') = true)
    {ops : Array Oper} {rest : List Oper} {o : Oper} {a : Act} {w : World} {Q : Exit → Act → World → Prop} (hgd : o.guard = none) (s x : Operand)
    (ho : o.op = .call { callee := .builtin .append, args := #[s, x], argTypes := #[t, t] }) (B : Nat) (v : Value) (L : List α) (y : α) (g : Nat) (hs : a.eval s = v) (hx : a.eval x = .slice (some ⟨g, 0, none⟩) 1 1)
    (hown : OwnR C e m B w v L) (hB : B ≤ w.heap.size) (hg : w.rangeAt g 0 (C y).toList) (hl : L.length ≤ 10000)
    (h : ∀ v' w', OwnR C e m B w' v' (L ++ [y]) → w.grownBy w' v.ownBlock → wpList Try.prog ops Q rest (a.put o.dst v') w') : wpList Try.prog ops Q (o :: rest) a w := by
  obtain ⟨i0, hi, hz0, hz1, hz2⟩ := Go.info_parts hinf
  have hb : (L.length + 1) * by_ ≤ 140737488355328 := Nat.le_trans (Nat.mul_le_mul (show L.length + 1 ≤ 10001 by omega) hby) (by decide)
  refine wpList_append_own _ hgd s x t ho B e i0 z m by_ ht hi hz0 hz1 hz2 hzs hm v L.length (fl C L) hs hown ⟨g, 0, none⟩ 1 1 (C y).toList hx (by rw [Array.length_toList, hC, Nat.one_mul]) (fun j u hj => by rw [show (⟨g, 0, none⟩ : Addr).add j = ⟨g, 0 + j, none⟩ by unfold Addr.add; split <;> simp_all]; exact hg j u hj)
    (fun u hu => by have := hone y; rw [Array.all_eq_true'] at this; exact this u (by simpa using hu)) (by unfold maxLen; omega) hb hB ?_
  intro v' w' h1 h2 h3
  refine h v' w' ?_ h2
  unfold OwnR
  rw [fl_app, fl_one, List.length_append]
  exact h1
theorem at_append {ops : Array Oper} {rest : List Oper} {d : Option Tmp} {ar : Array Operand} {ts : Array TypeId} {t : TypeId} {s : String} {af : Array Edge} {a : Act} {w : World} {Q : Exit → Act → World → Prop}
    (h : wpList Try.prog ops Q (⟨d, .call { callee := .builtin .append, args := ar, argTypes := ts }, t, s, af, none⟩ :: rest) a w) : wpList Try.prog ops Q (⟨d, .call { callee := .builtin .append, args := ar, argTypes := ts }, t, s, af, none⟩ :: rest) a w := h
theorem OwnR.below {C : α → Array Value} {e : TypeId} {m B : Nat} {w w' : World} {v : Value} {L : List α} (h : OwnR C e m B w v L) (hb : Below w.heap.size w w') : OwnR C e m B w' v L := by
  refine ⟨h.1, ?_⟩
  rcases h.2 with h | ⟨g, cap, cur, e1, e2, e3, e4⟩
  · exact .inl h
  · exact .inr ⟨g, cap, cur, e1, e2, (hb.block g (lt_of_heap e3)).trans e3, e4⟩
theorem OwnR.slice {C : α → Array Value} {e : TypeId} {m B : Nat} {w : World} {v : Value} {L : List α} (h : OwnR C e m B w v L) : ∃ p c, v = .slice p L.length c := by
  rcases h.2 with ⟨rfl, hz⟩ | ⟨g, cap, cur, rfl, _⟩
  · exact ⟨none, 0, by rw [hz]⟩
  · exact ⟨_, cap, rfl⟩
theorem OwnR.row {C : α → Array Value} {e : TypeId} {m B : Nat} {w : World} {v : Value} {L : List α} (h : OwnR C e m B w v L) {g : Nat} {cs cs' : Array Value} {t : TypeId} {fr : Nat × Nat} (hg : w.heap[g]? = some (.cells cs t fr)) (ht : t ≠ e) : OwnR C e m B (w.setRow g cs') v L := by
  refine ⟨h.1, ?_⟩
  rcases h.2 with h | ⟨b, cap, cur, e1, e2, e3, e4⟩
  · exact .inl h
  · refine .inr ⟨b, cap, cur, e1, e2, (setRow_other w g b cs' (fun k => ?_)).trans e3, e4⟩
    subst k
    rw [e3] at hg
    injection hg with hg
    injection hg with _ hg _
    exact ht hg.symm
/-- An empty row in a block of its own. -/
theorem OwnR.start {C : α → Array Value} {e : TypeId} {m B : Nat} {w : World} (hB : B ≤ w.heap.size) : OwnR C e m B (w.alloc (.cells #[] e)) (.slice (some ⟨w.heap.size, 0, none⟩) 0 0) [] :=
  ⟨by simp [fl], .inr ⟨w.heap.size, 0, #[], rfl, hB, heap_alloc_new w _, Nat.le_refl _, Nat.zero_le _, by simp, by simp [fl]⟩⟩
/-- The k-th one's cells. -/
theorem OwnR.at {C : α → Array Value} {e : TypeId} {m B : Nat} {w : World} {p : Option Addr} {n c : Nat} {L : List α} (hC : ∀ x, (C x).size = m) (h : OwnR C e m B w (.slice p n c) L) (h0 : 0 < L.length) : ∃ g cur, p = some ⟨g, 0, none⟩ ∧ B ≤ g ∧ w.heap[g]? = some (.cells cur e (0, 0)) ∧ ∀ k x, L[k]? = some x → w.rangeAt g (k * m) (C x).toList := by
  rcases h.2 with ⟨_, hz⟩ | ⟨g, cap, cur, e1, hb, hg, hn, hc, hsz, hcur⟩
  · omega
  · injection e1 with e1 e2 e3
    refine ⟨g, cur, e1, hb, hg, fun k x hk j u hj => ?_⟩
    have hjl : j < m := by have := (List.getElem?_eq_some_iff.1 hj).1; rwa [Array.length_toList, hC] at this
    have hkl : k < L.length := (List.getElem?_eq_some_iff.1 hk).1
    have hkm : k * m + j < L.length * m := by
      have : (k + 1) * m ≤ L.length * m := Nat.mul_le_mul_right m hkl
      rw [Nat.add_mul] at this
      omega
    rw [cell_of_row _ _ (k * m + j) _ _ _ hg]
    have h2 := fl_at C m hC L k j x hk hjl
    rw [← hcur, List.getElem?_take, if_pos hkm, hj] at h2
    simpa using h2
end
theorem HC_size (x : Hd) : (HC x).size = 10 := rfl
theorem HC_one (x : Hd) : (HC x).all (·.oneCell') = true := by simp [HC, Value.oneCell']
theorem Try.infoH : (Try.prog.info? 37).map (fun i => (i.zero, i.size, i.bytes)) = some (some (.agg (HC ⟨false, false, ⟨⟨0, 0, 0, 0⟩, 0, 0, 0, 0⟩⟩)), 10, 72) := by kernel_rfl
theorem harg_own {w : World} {B : Nat} {v : Value} {e : TypeId} {L : List Hd} (h : OwnR HC e 10 B w v L) (d : Hd) : HArg w v L.length (fun k => L.getD k d) := by
  obtain ⟨p, c, rfl⟩ := h.slice
  rcases Nat.eq_zero_or_pos L.length with h0 | h0
  · exact .inl ⟨h0, p, c, by rw [h0]⟩
  · obtain ⟨g, cur, rfl, hb, hg, hr⟩ := h.at HC_size h0
    refine .inr ⟨h0, g, 0, c, rfl, lt_of_heap hg, fun k hk => ?_⟩
    rw [Nat.zero_add]
    exact hr k _ (by show L[k]? = some (L.getD k d); rw [List.getD_eq_getElem?_getD, List.getElem?_eq_getElem hk]; rfl)
section
variable {w W W' : World} {p : Pri} {c : Vc} {b g : Nat} {l : List Int} {B e sz n : Nat} {xs : List Value} {v : Value}
theorem LawC.grown (h : LawC w p c b g l W) (ho : W.ownsRow B e sz v n xs) (hB : w.heap.size ≤ B) (hBW : B ≤ W.heap.size) (h1 : 23 ≠ e) (h2 : 25 ≠ e) (h3 : 3 ≠ e) (hg : W.grownBy W' v.ownBlock) : LawC w p c b g l W' :=
  ⟨⟨h.law.bel.trans ((grown_below ho hg hBW).mono hB), (hg.block _ (lt_of_heap h.law.own) (own_ne ho h.law.own h1)).trans h.law.own⟩, (hg.block _ (lt_of_heap h.chn) (own_ne ho h.chn h2)).trans h.chn, (hg.block _ (lt_of_heap h.row) (own_ne ho h.row h3)).trans h.row⟩
end

end Go.Proofs.Ytholemjbjmkpkaa
