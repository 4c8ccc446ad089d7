/- AgendaRuns: what goes leaves the law's row, by two appends to an empty one. Written by gen_agrun.py. -/
import Derived.Test.YtnddiobjojnckaaAgRMath
namespace Go.Proofs.Ytnddiobjojnckaa
open Go.RowKit Go.Joins Go.Deep

theorem take_drop_erase {α : Type} : ∀ (L : List α) (i : Nat), L.take i ++ L.drop (i + 1) = L.eraseIdx i
  | [], i => by simp
  | x :: L, 0 => by simp
  | x :: L, i + 1 => by
    rw [List.take_succ_cons, List.drop_succ_cons, List.eraseIdx_cons_succ, List.cons_append, take_drop_erase L i]
theorem iv3_take (L : List It) (i : Nat) (j : Nat) (u : Value) (h : (iv3 (L.take i))[j]? = some u) : (iv3 L)[j]? = some u := by
  have e : iv3 L = iv3 (L.take i) ++ iv3 (L.drop i) := by rw [← iv3_app, List.take_append_drop]
  rw [e, List.getElem?_append_left (List.getElem?_eq_some_iff.1 h).1]
  exact h
theorem iv3_drop (L : List It) (i : Nat) (hi : i ≤ L.length) (j : Nat) (u : Value) (h : (iv3 (L.drop i))[j]? = some u) : (iv3 L)[i * 3 + j]? = some u := by
  have e : iv3 L = iv3 (L.take i) ++ iv3 (L.drop i) := by rw [← iv3_app, List.take_append_drop]
  have el : (iv3 (L.take i)).length = i * 3 := by rw [iv3_len, List.length_take, Nat.min_eq_left hi]
  rw [e, List.getElem?_append_right (by omega), el, Nat.add_sub_cancel_left]
  exact h
section
variable {B : Nat} {w w' : World} {v : Value} {L : List It}
theorem Its.mono (h : Its B w v L) {B' : Nat} (hb : B' ≤ B) : Its B' w v L := by
  refine ⟨h.1, ?_⟩
  rcases h.2 with h1 | ⟨r, cap, cur, h1, h2, h3⟩
  · exact .inl h1
  · exact .inr ⟨r, cap, cur, h1, by omega, h3⟩
theorem Its.own (h : Its B w v L) : ∀ g, v.ownBlock = some g → B ≤ g := fun g e => by
  rcases h.2 with ⟨rfl, _⟩ | ⟨r, cap, cur, rfl, hb, _⟩
  · simp [Value.ownBlock] at e
  · simp [Value.ownBlock] at e
    omega
/-- The cells of a row, wherever one begins to read. -/
theorem Its.read (h : Its B w v L) (h0 : 0 < L.length) : ∃ g cap, v = .slice (some ⟨g, 0, none⟩) L.length cap ∧ L.length ≤ cap ∧ ∀ W', Below w.heap.size w W' → ∀ j u, (iv3 L)[j]? = some u → W'.cell? ⟨g, j, none⟩ = some u := by
  have h' := h
  rcases h.2 with ⟨_, hz⟩ | ⟨r, cap, cur, rfl, hb, hg, hn, _⟩
  · omega
  · refine ⟨r, cap, rfl, hn, fun W' hb j u hu => ?_⟩
    have hb2 := h'.below hb
    have hj : j < L.length * 3 := by rw [← iv3_len]; exact (List.getElem?_eq_some_iff.1 hu).1
    unfold Its at hb2
    rw [hb2.cellAt j (by omega)]
    exact hu
theorem Its.new (w : World) : Its w.heap.size (w.alloc (.cells #[] 33)) (.slice (some ⟨w.heap.size, 0, none⟩) 0 0) [] := World.ownsRow_made w #[] 0 (Nat.le_refl _) (Nat.zero_le _) rfl
theorem grown_new {w0 : World} (hb : Below w0.heap.size w0 w) (hg : w.grownBy w' v.ownBlock) (hv : ∀ g, v.ownBlock = some g → w0.heap.size ≤ g) : Below w0.heap.size w0 w' :=
  hb.trans ⟨hg.os, hg.tape, hg.output, hg.size, fun k hk => hg.block k (by have := hb.size; omega) (fun e => by have := hv k e.symm; omega)⟩
end
theorem hAppI {ops : Array Oper} {Q : Exit → Act → World → Prop} {fuel : Nat} {listed : Array Bool} {a : Act} {w : World} {i k : Nat} {o : Oper} (hr : Region.ready .any ops listed = [i]) (ho : ops[i]? = some o) (hd : o.dst = some k) (hw : Region.wanted o (yielded ops a.tmps) = true) (s x : Operand)
    (hop : o.op = .call { callee := .builtin .append, args := #[s, x], argTypes := #[26, 26] }) (B : Nat) (v : Value) (L M : List It) (ad : Addr) (n c : Nat) (hs : a.eval s = v) (hx : a.eval x = .slice (some ad) n c) (hn : n = M.length)
    (hown : Its B w v L) (hB : B ≤ w.heap.size) (hrd : ∀ j u, (iv3 M)[j]? = some u → w.cell? (ad.add j) = some u) (hl : L.length + M.length ≤ 1000)
    (h : ∀ v' w', Its B w' v' (L ++ M) → w.grownBy w' v.ownBlock → wpAnyH Try.prog .any ops Q (fun _ => True) fuel (listed.setIfInBounds i true) { a with tmps := a.tmps.setIfInBounds k v' } w') : wpAnyH Try.prog .any ops Q (fun _ => True) (fuel + 1) listed a w := by
  subst hn
  refine wpAnyH_ready hr (by simp) (AllReadyH.cons ho (fun K hK => ?_) AllReadyH.nil)
  rw [if_pos hw]
  obtain ⟨i0, hi, hz0, hz1, hz2⟩ := info_parts Try.infoItem
  refine wp_append_own w s x 26 hop B 33 i0 _ 3 24 Try.underlying26 hi hz0 hz1 hz2 rfl (by decide) v L.length (iv3 L) hs hown ad M.length c (iv3 M) hx (iv3_len M) hrd (iv3_one M) (by unfold maxLen; omega) (by omega) hB ?_
  intro v' w' h1 h2 _
  refine hK _ _ trivial (fun _ => by rw [AgI.put_some k v' _ hd]; exact h v' w' (by unfold Its; rw [iv3_app, List.length_append]; exact h1) h2)
/-- A part of a row. -/
theorem cut_hi (g m c i : Nat) (hi : i ≤ c) (w : World) : (Instr.sliceAt 26 (.slice (some ⟨g, 0, none⟩) m c) none (some (.int .i64 (i : Int))) none).run Try.prog w = .ok (.slice (some ⟨g, 0, none⟩) i c) w := by
  have u1 := Try.underlying26
  have u2 := Try.sizeOf33
  go_simp
theorem cut_lo (g m c i : Nat) (hi : i ≤ m) (w : World) : (Instr.sliceAt 26 (.slice (some ⟨g, 0, none⟩) m c) (some (.int .i64 (i : Int))) none none).run Try.prog w = .ok (.slice (some (if c = i then ⟨g, 0, none⟩ else ⟨g, i * 3, none⟩)) (m - i) (c - i)) w := by
  have u1 := Try.underlying26
  have u2 := Try.sizeOf33
  go_simp
  split <;> rfl

end Go.Proofs.Ytnddiobjojnckaa
