/- Lanes as a law has them: all their blocks are the call's own; the document's example. -/
import Derived.Test.YtllmfkodgalklaaPoLnClear
namespace Go.Proofs.Ytllmfkodgalklaa
open Go.RowKit Go.Joins

structure LnB (w0 w : World) (b : Nat) (F : Nat → Prop) (s : LS) : Prop where
  ln : Ln w b F s
  low : ∀ k, F k → w0.heap.size ≤ k
  bel : Below w0.heap.size w0 w
/-- What a call leaves: lanes in blocks that were theirs, or are new; all else as it was. -/
def Left (w0 w : World) (b : Nat) (F : Nat → Prop) (s : LS) (w' : World) : Prop := ∃ F', LnB w0 w' b F' s ∧ (∀ k, F' k → F k ∨ w.heap.size ≤ k) ∧ ButP F w w'
section
variable {w0 w w' : World} {b : Nat} {F : Nat → Prop} {s s' : LS}
theorem LnB.below (h : LnB w0 w b F s) (hb : Below w.heap.size w w') : LnB w0 w' b F s := ⟨h.ln.below hb, h.low, h.bel.trans (hb.mono h.bel.size)⟩
theorem LnB.alloc (h : LnB w0 w b F s) (o : Obj) : LnB w0 (w.alloc o) b F s := h.below (bAl (bRef w) o)
theorem LnB.drewN (h : LnB w0 w b F s) (n : Nat) : LnB w0 (w.drewN n) b F s := h.below (bDr (bRef w) n)
theorem LnB.same (h : LnB w0 w b F s) (h1 : Ln w' b F s') (h2 : ButP F w w') : Left w0 w b F s' w' :=
  ⟨F, ⟨h1, h.low, h.bel.trans (h2.below h.low h.bel.size)⟩, fun _ hk => .inl hk, h2⟩
theorem LnB.wid (h : LnB w0 w b F s) (h1 : Ln w' b (Wid F w w') s') (h2 : ButP F w w') : Left w0 w b F s' w' :=
  ⟨_, ⟨h1, fun k hk => hk.elim (h.low k) (fun e => Nat.le_trans h.bel.size e.1), h.bel.trans (h2.below h.low h.bel.size)⟩, fun k hk => hk.elim .inl (fun e => .inr e.1), h2⟩
theorem LnB.stay (h : LnB w0 w b F s) (hb : Below w.heap.size w w') : Left w0 w b F s w' := h.same (h.ln.below hb) (.of_below hb)
/-- A block that is none of the lanes' stays so. -/
theorem ButP.cell {p : Addr} {v : Value} (h : ButP F w w') (hp : w.cell? p = some v) (hn : ¬ F p.block) : w'.cell? p = some v := by
  rw [World.cell?_of_block (h.block p.block (block_lt_cell hp) hn)]
  exact hp
theorem new_yes (r : Nat → Int) (h : okR r 8) (w0 w : World) (hb : Below w0.heap.size w0 w) : Calls Try.prog 18 #[a8 r] w fun e w' => ∃ b, e = .returned (.tuple #[.pointer (some ⟨b, 0, none⟩), .int .i64 0]) ∧ w.heap.size ≤ b ∧ LnB w0 w' b (fun k => k = b) (LS.new r) ∧ Below w.heap.size w w' :=
  (new_any r w).mono fun e w' ⟨h1, _, h3⟩ => by
    obtain ⟨b, e1, e2, e3⟩ := h1 h
    exact ⟨b, e1, e2, ⟨e3, fun k hk => by have := hb.size; omega, hb.trans (h3.mono hb.size)⟩, h3⟩
theorem new_no (r : Nat → Int) (h : ¬ okR r 8) (w : World) : Calls Try.prog 18 #[a8 r] w fun e w' => e = .returned (.tuple #[.pointer none, .int .i64 1]) ∧ Below w.heap.size w w' :=
  (new_any r w).mono fun e w' ⟨_, h2, h3⟩ => ⟨h2 h, h3⟩
/-- What Put answers. -/
def LS.pute (s : LS) (c : Int) (x : It) : Int := if x.2.1 < 0 ∨ 1600 < x.2.1 then 1 else if c < 0 ∨ 8 ≤ c then 40 else if s.full c.toNat x.2.2 then 30 else 0
/-- What Put leaves. -/
def LS.put (s : LS) (c : Int) (x : It) : LS := if s.pute c x = 0 then { s with q := upd s.q c.toNat (s.q c.toNat ++ [x]) } else if s.pute c x = 30 then { s with lost := upd s.lost c.toNat (wrap64 (s.lost c.toNat + 1)) } else s
theorem putB (h : LnB w0 w b F s) (G : s.Good) (c : Int) (x : It) : Calls Try.prog 19 #[.pointer (some ⟨b, 0, none⟩), .int .i64 c, itv x] w fun e w' => e = .returned (.int .i64 (s.pute c x)) ∧ Left w0 w b F (s.put c x) w' := by
  by_cases hx : x.2.1 < 0 ∨ 1600 < x.2.1
  · have e1 : s.pute c x = 1 := if_pos hx
    have e2 : s.put c x = s := by unfold LS.put; rw [e1, if_neg (by decide), if_neg (by decide)]
    rw [e1, e2]
    exact (put_bad b c x hx w).mono fun e w' ⟨h1, h2⟩ => ⟨h1, h.stay h2⟩
  by_cases hc : c < 0 ∨ 8 ≤ c
  · have e1 : s.pute c x = 40 := by unfold LS.pute; rw [if_neg hx, if_pos hc]
    have e2 : s.put c x = s := by unfold LS.put; rw [e1, if_neg (by decide), if_neg (by decide)]
    rw [e1, e2]
    exact (put_port b c x (by omega) (by omega) hc w).mono fun e w' ⟨h1, h2⟩ => ⟨h1, h.stay h2⟩
  obtain ⟨k, rfl⟩ : ∃ k : Nat, c = (k : Int) := ⟨c.toNat, by omega⟩
  have hk : k < 8 := by omega
  have hl := G.ln k hk
  have ek : (k : Int).toNat = k := by omega
  by_cases hf : s.full k x.2.2 = true
  · have e1 : s.pute (k : Int) x = 30 := by unfold LS.pute; rw [if_neg hx, if_neg hc, ek, if_pos hf]
    have e2 : s.put (k : Int) x = { s with lost := upd s.lost k (wrap64 (s.lost k + 1)) } := by unfold LS.put; rw [e1, if_neg (by decide), if_pos rfl, ek]
    rw [e1, e2]
    exact (put_full h.ln k hk x (by omega) (by omega) (by omega) hf).mono fun e w' ⟨h1, h2, h3⟩ => ⟨h1, h.same h2 h3⟩
  · have e1 : s.pute (k : Int) x = 0 := by unfold LS.pute; rw [if_neg hx, if_neg hc, ek, if_neg hf]
    have e2 : s.put (k : Int) x = { s with q := upd s.q k (s.q k ++ [x]) } := by unfold LS.put; rw [e1, if_pos rfl, ek]
    rw [e1, e2]
    exact (put_ok h.ln k hk x (by omega) (by omega) (by omega) (by simpa using hf)).mono fun e w' ⟨h1, h2, h3⟩ => ⟨h1, h.wid h2 h3⟩
/-- What Pick answers, and leaves. -/
def PkB (w0 w : World) (b : Nat) (F : Nat → Prop) (s : LS) (left : Nat → Int) (e : Ending) (w' : World) : Prop :=
  ((∀ c, c < 8 → ¬ fits s left c) ∧ e = .returned (.tuple #[.int .i64 0, itv it0, .bool false]) ∧ Left w0 w b F s w') ∨
  ∃ c x L, c < 8 ∧ s.q c = x :: L ∧ 8 * x.2.1 ≤ left c ∧ (∀ d, c < d → d < 8 → ¬ fits s left d) ∧ e = .returned (.tuple #[.int .i64 (c : Int), itv x, .bool true]) ∧ Left w0 w b F { s with q := upd s.q c L } w'
theorem pickB (h : LnB w0 w b F s) (G : s.Good) (left : Nat → Int) : Calls Try.prog 22 #[.pointer (some ⟨b, 0, none⟩), a8 left] w (PkB w0 w b F s left) :=
  (pick_any h.ln G left).mono fun e w' hh => by
    rcases hh with ⟨h1, h2, h3⟩ | ⟨c, x, L, h1, h2, h3, h4, h5, h6, h7⟩
    · exact .inl ⟨h1, h2, h.stay h3⟩
    · exact .inr ⟨c, x, L, h1, h2, h3, h4, h5, h.same h6 h7⟩
theorem clearB (h : LnB w0 w b F s) (G : s.Good) : Calls Try.prog 41 #[.pointer (some ⟨b, 0, none⟩)] w fun e w' => e = .returned (.int .i64 (s.tot 8 : Int)) ∧ Left w0 w b F s.none w' :=
  (clear_any h.ln G).mono fun e w' ⟨h1, h2, h3⟩ => ⟨h1, h.same h2 h3⟩
/-- How many wait. -/
def LS.len (s : LS) (c : Int) : Int := if c < 0 ∨ 8 ≤ c then 0 else ((s.q c.toNat).length : Int)
def LS.lostn (s : LS) (c : Int) : Int := if c < 0 ∨ 8 ≤ c then 0 else s.lost c.toNat
theorem lenB (h : LnB w0 w b F s) (c : Int) : Calls Try.prog 24 #[.pointer (some ⟨b, 0, none⟩), .int .i64 c] w fun e w' => e = .returned (.int .i64 (s.len c)) ∧ w' = w := by
  unfold LS.len
  by_cases hc : c < 0 ∨ 8 ≤ c
  · rw [if_pos hc]; exact len_no b c hc w
  · rw [if_neg hc]
    obtain ⟨k, rfl⟩ : ∃ k : Nat, c = (k : Int) := ⟨c.toNat, by omega⟩
    rw [show (k : Int).toNat = k by omega]
    exact len_yes h.ln k (by omega)
theorem lostB (h : LnB w0 w b F s) (c : Int) : Calls Try.prog 25 #[.pointer (some ⟨b, 0, none⟩), .int .i64 c] w fun e w' => e = .returned (.int .i64 (s.lostn c)) ∧ w' = w := by
  unfold LS.lostn
  by_cases hc : c < 0 ∨ 8 ≤ c
  · rw [if_pos hc]; exact lost_no b c hc w
  · rw [if_neg hc]
    obtain ⟨k, rfl⟩ : ∃ k : Nat, c = (k : Int) := ⟨c.toNat, by omega⟩
    rw [show (k : Int).toNat = k by omega]
    exact lost_yes h.ln k (by omega)
theorem LS.Good.put (G : s.Good) (hr : okR s.r 8) (c : Int) (x : It) : (s.put c x).Good := by
  unfold LS.put
  by_cases h0 : s.pute c x = 0
  · rw [if_pos h0]
    unfold LS.pute at h0
    by_cases hx : x.2.1 < 0 ∨ 1600 < x.2.1
    · rw [if_pos hx] at h0; omega
    rw [if_neg hx] at h0
    by_cases hc : c < 0 ∨ 8 ≤ c
    · rw [if_pos hc] at h0; omega
    rw [if_neg hc] at h0
    by_cases hf : s.full c.toNat x.2.2 = true
    · rw [if_pos hf] at h0; omega
    generalize c.toNat = k at *
    refine ⟨fun d hd y hy => ?_, fun d hd => ?_⟩
    · change y ∈ upd s.q k (s.q k ++ [x]) d at hy
      by_cases e : d = k
      · subst e
        rw [upd_same] at hy
        rcases List.mem_append.1 hy with hy | hy
        · exact G.sz d hd y hy
        · simp at hy
          subst hy
          omega
      · rw [upd_other _ _ e] at hy
        exact G.sz d hd y hy
    · change (upd s.q k (s.q k ++ [x]) d).length ≤ _
      by_cases e : d = k
      · subst e
        rw [upd_same]
        have h1 := hr d hd
        unfold LS.full at hf
        have h2 : ¬ (s.r d ≤ if x.2.2 = true then 2 * ((s.q d).length : Int) else ((s.q d).length : Int)) := by simpa using hf
        simp only [List.length_append, List.length_singleton]
        split at h2 <;> omega
      · rw [upd_other _ _ e]
        exact G.ln d hd
  · rw [if_neg h0]
    split
    · exact ⟨G.sz, G.ln⟩
    · exact G
theorem put_r (s : LS) (c : Int) (x : It) : (s.put c x).r = s.r := by
  unfold LS.put
  split
  · rfl
  · split <;> rfl
theorem LS.Good.pop (G : s.Good) {c : Nat} {x : It} {L : List It} (hc : c < 8) (hq : s.q c = x :: L) : LS.Good { s with q := upd s.q c L } := by
  refine ⟨fun d hd y hy => ?_, fun d hd => ?_⟩
  · change y ∈ upd s.q c L d at hy
    by_cases e : d = c
    · subst e
      rw [upd_same] at hy
      exact G.sz d hd y (by rw [hq]; exact List.mem_cons_of_mem _ hy)
    · rw [upd_other _ _ e] at hy
      exact G.sz d hd y hy
  · change (upd s.q c L d).length ≤ _
    by_cases e : d = c
    · subst e
      rw [upd_same]
      have := G.ln d hd
      rw [hq] at this
      simp at this
      omega
    · rw [upd_other _ _ e]
      exact G.ln d hd
theorem new_good (r : Nat → Int) : (LS.new r).Good := ⟨fun _ _ y hy => (by cases hy), fun _ _ => Nat.zero_le _⟩
theorem none_good (s : LS) : s.none.Good := ⟨fun _ _ y hy => (by cases hy), fun _ _ => Nat.zero_le _⟩
end

end Go.Proofs.Ytllmfkodgalklaa
