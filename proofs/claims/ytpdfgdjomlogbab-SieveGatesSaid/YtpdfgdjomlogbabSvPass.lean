/- Package sieve: pass, of a stream without a gate and a meter. -/
import Derived.Test.YtpdfgdjomlogbabSvNew2
import Derived.BigQuiet
namespace Go.Proofs.Ytpdfgdjomlogbab
open Go.RowKit Go.Joins

theorem fv_set : ∀ (L : List Fl) (k j : Nat) (u : Value) (f : Fl), k < L.length → j < 21 → (FA f).toList = (FA (L.getD k default)).toList.set j u → (fv L).set (k * 21 + j) u = fv (L.set k f)
  | [], k, _, _, _, h, _, _ => by simp at h
  | x :: L, 0, j, u, f, _, hj, h => by
    have hx : (FA x).toList.length = 21 := by simp [FA_size]
    show ((FA x).toList ++ fv L).set (0 * 21 + j) u = (FA f).toList ++ fv L
    rw [List.set_append_left _ _ (by rw [hx]; omega), Nat.zero_mul, Nat.zero_add, h]
    simp
  | x :: L, k + 1, j, u, f, hk, hj, h => by
    have hx : (FA x).toList.length = 21 := by simp [FA_size]
    show ((FA x).toList ++ fv L).set ((k + 1) * 21 + j) u = (FA x).toList ++ fv (L.set k f)
    rw [List.set_append_right _ _ (by rw [hx]; omega), hx, show (k + 1) * 21 + j - 21 = k * 21 + j by omega, fv_set L k j u f (by simpa using hk) hj (by simpa using h)]
section
variable {w W W' : World} {b g n cap : Nat} {L : List Fl} {oth : Int}
theorem NS.at (h : NS w b (.slice (some ⟨g, 0, none⟩) n cap) L oth W) (hn : n = L.length) {k : Nat} (hk : k < n) (j : Nat) (hj : j < 21) : W.cell? ⟨g, k * 21 + j, none⟩ = (FA (L.getD k default)).toList[j]? := by
  subst hn
  rw [h.row.cellAt (k * 21 + j) (by omega)]
  exact fv_at L k j hk hj
theorem NS.fz (h : NS w b (.slice (some ⟨g, 0, none⟩) n cap) L oth W) (hn : n = L.length) (j : Nat) : W.frozen? ⟨g, j, none⟩ = false := by
  subst hn
  exact h.row.frozenAt j
theorem NS.gb (h : NS w b (.slice (some ⟨g, 0, none⟩) n cap) L oth W) : b + 1 ≤ g := (row_lt h.row (k := g) rfl).1
theorem NS.put (h : NS w b (.slice (some ⟨g, 0, none⟩) n cap) L oth W) (hn : n = L.length) {k : Nat} (hk : k < n) (j : Nat) (hj : j < 21) (u : Value) (f : Fl) (hf : (FA f).toList = (FA (L.getD k default)).toList.set j u) :
    NS w b (.slice (some ⟨g, 0, none⟩) n cap) (L.set k f) oth (W.setCell ⟨g, k * 21 + j, none⟩ u) := by
  have hgb := h.gb
  have hbb := h.bb
  refine ⟨(heap_setCell_other _ _ _ _ (by simp; omega)).trans h.box, ?_, h.bel.setCell (by show w.heap.size ≤ g; omega) _, hbb⟩
  subst hn
  have := h.row.stored (k * 21 + j) u
  rw [fv_set L k j u f hk hj hf] at this
  rw [List.length_set]
  exact this.1
theorem NS.others {v : Value} (h : NS w b v L oth W) (x : Int) : NS w b v L x (W.setCell ⟨b, 3, none⟩ (.int .i64 x)) := by
  refine ⟨heap_setCell_same W _ 3 _ _ _ h.box, row_keep h.row fun k hk => heap_setCell_other _ _ _ _ (by have := (row_lt h.row hk).1; simp; omega), h.bel.setCell h.bb _, h.bb⟩
end
theorem NS.farg {w W : World} {b : Nat} {v : Value} {L : List Fl} {oth : Int} (h : NS w b v L oth W) : FArg W v L := by
  rcases h.row.2 with ⟨e, hz⟩ | ⟨g, cap, cur, rfl, hb, hg, hn, _, hs, hcur⟩
  · exact .inl ⟨List.eq_nil_of_length_eq_zero hz, none, 0, e⟩
  · rcases Nat.eq_zero_or_pos L.length with h0 | h0
    · exact .inl ⟨List.eq_nil_of_length_eq_zero h0, _, cap, by rw [h0]⟩
    · refine .inr ⟨h0, g, cap, rfl, lt_of_heap hg, hn, fun k hk j u hu => ?_⟩
      have hj : j < 21 := by
        have := (List.getElem?_eq_some_iff.1 hu).1
        simpa [FA_size] using this
      rw [h.at rfl hk j hj]; exact hu
theorem NS.pos {w W : World} {b : Nat} {v : Value} {L : List Fl} {oth : Int} (h : NS w b v L oth W) (h0 : 0 < L.length) : ∃ g cap, v = .slice (some ⟨g, 0, none⟩) L.length cap ∧ L.length ≤ cap := by
  rcases h.row.2 with ⟨e, hz⟩ | ⟨g, cap, cur, rfl, hb, hg, hn, _, hs, hcur⟩
  · omega
  · exact ⟨g, cap, rfl, hn⟩
/-- All blocks but two are as they were. -/
structure TwoB (b g : Nat) (w w' : World) : Prop where
  os : w'.os = w.os
  tape : w'.tape = w.tape
  output : w'.output = w.output
  size : w.heap.size ≤ w'.heap.size
  block : ∀ k, k < w.heap.size → k ≠ b → k ≠ g → w'.heap[k]? = w.heap[k]?
theorem TwoB.refl (b g : Nat) (w : World) : TwoB b g w w := ⟨rfl, rfl, rfl, Nat.le_refl _, fun _ _ _ _ => rfl⟩
theorem TwoB.trans {b g : Nat} {w w1 w2 : World} (h : TwoB b g w w1) (k : TwoB b g w1 w2) : TwoB b g w w2 :=
  ⟨k.os.trans h.os, k.tape.trans h.tape, k.output.trans h.output, Nat.le_trans h.size k.size, fun i hi h1 h2 => (k.block i (Nat.lt_of_lt_of_le hi h.size) h1 h2).trans (h.block i hi h1 h2)⟩
theorem TwoB.of {b g : Nat} {w w1 : World} (h : Below w.heap.size w w1) : TwoB b g w w1 := ⟨h.os, h.tape, h.output, h.size, fun k hk _ _ => h.block k hk⟩
theorem TwoB.setg {b g : Nat} {w w1 : World} (h : TwoB b g w w1) (i : Nat) (v : Value) : TwoB b g w (w1.setCell ⟨g, i, none⟩ v) :=
  ⟨h.os, h.tape, h.output, by simpa using h.size, fun k hk h1 h2 => (heap_setCell_other _ _ _ _ h2).trans (h.block k hk h1 h2)⟩
theorem TwoB.setb {b g : Nat} {w w1 : World} (h : TwoB b g w w1) (i : Nat) (v : Value) : TwoB b g w (w1.setCell ⟨b, i, none⟩ v) :=
  ⟨h.os, h.tape, h.output, by simpa using h.size, fun k hk h1 h2 => (heap_setCell_other _ _ _ _ h1).trans (h.block k hk h1 h2)⟩
def passV (f : Fl) (size : Int) : Int := if f.bl = true then 5 else if f.st.max ≠ 0 ∧ f.st.max < size then 2 else 0
def passF (f : Fl) (size : Int) : Fl := if f.bl = true then f else if f.st.max ≠ 0 ∧ f.st.max < size then { f with bl := f.st.shut } else f
set_option maxHeartbeats 1000000 in
theorem pass_any {w W : World} {b g n cap : Nat} {L : List Fl} {oth : Int} (h : NS w b (.slice (some ⟨g, 0, none⟩) n cap) L oth W) (hn : n = L.length) {k : Nat} (hk : k < n) (f : Fl) (hf : L.getD k default = f) (hg : f.st.gate = -1) (hr : f.st.rate = -1) (now size : Int) :
    Calls Try.prog 19 #[.pointer (some ⟨b, 0, none⟩), .pointer (some ⟨g, k * 21, none⟩), .int .i64 now, .int .i64 size] W fun e w' => e = .returned (.tuple #[.bool false, .int .i64 (passV f size)]) ∧ NS w b (.slice (some ⟨g, 0, none⟩) n cap) (L.set k (passF f size)) oth w' ∧ TwoB b g W w' := by
  have HN := Lib.hid h
  have a9 := h.at hn hk 9 (by omega)
  have a11 := h.at hn hk 11 (by omega)
  have a12 := h.at hn hk 12 (by omega)
  have a13 := h.at hn hk 13 (by omega)
  have a14 := h.at hn hk 14 (by omega)
  rw [hf] at a9 a11 a12 a13 a14
  replace a9 : W.cell? ⟨g, k * 21 + 9, none⟩ = some (.int .i64 f.st.gate) := a9
  replace a11 : W.cell? ⟨g, k * 21 + 11, none⟩ = some (.int .i64 f.st.max) := a11
  replace a12 : W.cell? ⟨g, k * 21 + 12, none⟩ = some (.bool f.st.shut) := a12
  replace a13 : W.cell? ⟨g, k * 21 + 13, none⟩ = some (.int .i64 f.st.rate) := a13
  replace a14 : W.cell? ⟨g, k * 21 + 14, none⟩ = some (.bool f.bl) := a14
  rw [hg] at a9
  rw [hr] at a13
  have f14 := h.fz hn (k * 21 + 14)
  have hself : L.set k f = L := by
    rw [← hf]
    apply List.ext_getElem?
    intro i
    rw [List.getElem?_set]
    split
    · rename_i e; subst e
      rw [if_pos (by omega), List.getD_eq_getElem?_getD, List.getElem?_eq_getElem (by omega)]; rfl
    · rfl
  have HSELF := Lib.hid hself
  have HPUT := Lib.hid (fun u f' hf' => h.put hn hk 14 (by omega) u f' hf')
  rw [hf] at HPUT
  have HL := Lib.hid hn
  clear hself h hn hf
  cases hb : f.bl with
  | true =>
    rw [hb] at a14
    have e1 : passV f size = 5 := if_pos hb
    have e2 : passF f size = f := if_pos hb
    rw [e1, e2, HSELF.out]
    clear hb e1 e2
    go_enter Try.func19, Try.ntmps19
    go_wp2_with fail
    go_ret2
    exact ⟨rfl, HN.out, TwoB.refl _ _ _⟩
  | false =>
    rw [hb] at a14
    by_cases hm : f.st.max ≠ 0 ∧ f.st.max < size
    · have e1 : passV f size = 2 := by unfold passV; rw [if_neg (by simp [hb]), if_pos hm]
      have e2 : passF f size = { f with bl := f.st.shut } := by unfold passF; rw [if_neg (by simp [hb]), if_pos hm]
      have d1 : (f.st.max != 0) = true := by simpa using hm.1
      have d2 : decide (f.st.max < size) = true := decide_eq_true hm.2
      rw [e1, e2]
      have HP := Lib.hid (HPUT.out (.bool f.st.shut) { f with bl := f.st.shut } rfl)
      clear hb e1 e2 hm
      go_enter Try.func19, Try.ntmps19
      go_wp2_with fail
      go_ret2
      exact ⟨rfl, HP.out, (TwoB.refl _ _ _).setg _ _⟩
    · have e1 : passV f size = 0 := by unfold passV; rw [if_neg (by simp [hb]), if_neg hm]
      have e2 : passF f size = f := by unfold passF; rw [if_neg (by simp [hb]), if_neg hm]
      rw [e1, e2, HSELF.out]
      by_cases hm0 : f.st.max = 0
      · have d1 : (f.st.max != 0) = false := by simpa using hm0
        clear hb e1 e2 hm hm0
        go_enter Try.func19, Try.ntmps19
        go_wp2_with fail
        go_quiet (fail)
        all_goals (
          go_wp2_with fail
          go_ret2
          exact ⟨rfl, HN.out.below (bDr (bRef _) _), TwoB.of (bDr (bRef _) _)⟩)
      · have d1 : (f.st.max != 0) = true := by simpa using hm0
        have d2 : decide (f.st.max < size) = false := decide_eq_false (fun k => hm ⟨hm0, k⟩)
        clear hb e1 e2 hm hm0
        go_enter Try.func19, Try.ntmps19
        go_wp2_with fail
        go_quiet (fail)
        all_goals (
          go_wp2_with fail
          go_ret2
          exact ⟨rfl, HN.out.below (bDr (bRef _) _), TwoB.of (bDr (bRef _) _)⟩)

end Go.Proofs.Ytpdfgdjomlogbab
