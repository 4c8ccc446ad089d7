/- Slices of ints and of times in memory: what is read, and what the call itself has made. -/
import Derived.Test.YtglmkjnhkjljpaaLaws1
import Derived.Test.YtglmkjnhkjljpaaMed
import Derived.Test.YtglmkjnhkjljpaaPost
import Derived.Laws.AppendOwnNone
import Derived.Lib.SmallJoins
import Derived.WalkMore
namespace Go.Proofs.Ytglmkjnhkjljpaa
open Go.RowKit Go.Joins

def RdL (w : World) (b o : Nat) (xs : List Int) : Prop :=
  0 < xs.length → b < w.heap.size ∧ ∀ k, k < xs.length → w.cell? ⟨b, o + k, none⟩ = some (.int .i64 (xs.getD k 0))
/-- The value's elements are these ints. -/
def LArg (w : World) (v : Value) (xs : List Int) : Prop :=
  (∀ x ∈ xs, In64 x) ∧
  ((xs = [] ∧ ∃ a c, v = .slice a 0 c ∧ (a = none → c = 0)) ∨
   (0 < xs.length ∧ ∃ b o c, v = .slice (some ⟨b, o, none⟩) xs.length c ∧ xs.length ≤ c ∧ RdL w b o xs))
theorem in_getD {xs : List Int} (h : ∀ x ∈ xs, In64 x) (k : Nat) : In64 (xs.getD k 0) := by
  rw [List.getD_eq_getElem?_getD]
  rcases Nat.lt_or_ge k xs.length with hk | hk
  · rw [List.getElem?_eq_getElem hk]; exact h _ (List.getElem_mem hk)
  · rw [List.getElem?_eq_none hk]; exact ⟨by decide, by decide⟩

theorem Try.infoS : (Try.prog.info? 23).map (fun i => (i.zero, i.size, i.bytes)) = some (some (.int .i64 0), 1, 8) := by kernel_rfl
def sv (os : List Int) : List Value := os.map (Value.int .i64)
theorem sv_len (os : List Int) : (sv os).length = os.length := by simp [sv]
theorem sv_at {os : List Int} {k : Nat} (h : k < os.length) : (sv os)[k]? = some (.int .i64 (os.getD k 0)) := by
  simp [sv, List.getD_eq_getElem?_getD, List.getElem?_eq_getElem h]
theorem sv_one (os : List Int) : ∀ u ∈ sv os, u.oneCell' = true := by
  intro u hu; obtain ⟨x, _, rfl⟩ := List.mem_map.1 hu; rfl
theorem addr_add2 (g o j : Nat) : (⟨g, o, none⟩ : Addr).add j = ⟨g, o + j, none⟩ := by
  unfold Addr.add; split <;> simp_all

/-- The call's own times. -/
def OwnS (w0 w : World) (v : Value) (os : List Int) : Prop :=
  w.ownsRow w0.heap.size 23 1 v os.length (sv os) ∧ Below w0.heap.size w0 w ∧ (∀ x ∈ os, In64 x) ∧ v ≠ .slice none 0 0

section
variable {w0 w w' : World} {b o : Nat} {v : Value} {os xs : List Int}
theorem RdL.below (h : RdL w b o xs) (hb : Below w.heap.size w w') : RdL w' b o xs := fun h0 => by
  obtain ⟨hlt, hc⟩ := h h0
  exact ⟨Nat.lt_of_lt_of_le hlt hb.size, fun k hk => (hb.cell hlt).trans (hc k hk)⟩
theorem LArg.below (h : LArg w v xs) (hb : Below w.heap.size w w') : LArg w' v xs := by
  obtain ⟨h1, h2⟩ := h
  refine ⟨h1, ?_⟩
  rcases h2 with h2 | ⟨h3, b, o, c, e, hc, hr⟩
  · exact .inl h2
  · exact .inr ⟨h3, b, o, c, e, hc, hr.below hb⟩
theorem LArg.slice (h : LArg w v xs) : ∃ p c, v = .slice p xs.length c := by
  rcases h.2 with ⟨rfl, p, c, rfl, _⟩ | ⟨_, b, o, c, rfl, _⟩
  · exact ⟨p, c, rfl⟩
  · exact ⟨_, c, rfl⟩
theorem OwnS.form (h : OwnS w0 w v os) : ∃ g c, v = .slice (some ⟨g, 0, none⟩) os.length c ∧ os.length ≤ c ∧ w0.heap.size ≤ g ∧ g < w.heap.size := by
  rcases h.1.2 with ⟨e, _⟩ | ⟨g, cap, cur, e, hb, hg, hn, _⟩
  · exact absurd e h.2.2.2
  · refine ⟨g, cap, e, hn, hb, ?_⟩
    rcases Nat.lt_or_ge g w.heap.size with hlt | hge
    · exact hlt
    · rw [Array.getElem?_eq_none hge] at hg; cases hg
theorem OwnS.cell {g n c : Nat} (h : OwnS w0 w (.slice (some ⟨g, 0, none⟩) n c) os) {k : Nat} (hk : k < os.length) : w.cell? ⟨g, k, none⟩ = some (.int .i64 (os.getD k 0)) := by
  obtain ⟨g', c', e, _⟩ := h.form
  injection e with e1 e2 e3
  rw [e2] at h
  rw [h.1.cellAt k (by omega), sv_at hk]
theorem OwnS.arg (h : OwnS w0 w v os) : LArg w v os := by
  obtain ⟨g, c, rfl, hc, hb, hlt⟩ := h.form
  refine ⟨h.2.2.1, ?_⟩
  rcases Nat.eq_zero_or_pos os.length with h0 | h0
  · exact .inl ⟨List.eq_nil_of_length_eq_zero h0, some ⟨g, 0, none⟩, c, by rw [h0], fun e => by cases e⟩
  · exact .inr ⟨h0, g, 0, c, rfl, hc, fun _ => ⟨hlt, fun k hk => by rw [Nat.zero_add]; exact h.cell hk⟩⟩
theorem OwnS.below (h : OwnS w0 w v os) (hb : Below w.heap.size w w') : OwnS w0 w' v os := by
  refine ⟨⟨h.1.1, ?_⟩, h.2.1.trans (hb.mono h.2.1.size), h.2.2⟩
  rcases h.1.2 with ⟨rfl, hz⟩ | ⟨g, cap, cur, rfl, h1, hg, h3⟩
  · exact .inl ⟨rfl, hz⟩
  · exact .inr ⟨g, cap, cur, rfl, h1, (hb.block g (h.1.lt g (by simp [Value.ownBlock])).2).trans hg, h3⟩
theorem OwnS.bel (h : OwnS w0 w v os) : Below w0.heap.size w0 w := h.2.1
theorem OwnS.alloc (h : OwnS w0 w v os) (o : Obj) : OwnS w0 (w.alloc o) v os := h.below (bAl (bRef w) o)
theorem OwnS.from {w1 : World} (hb : Below w0.heap.size w0 w1) (h : OwnS w1 w v os) : OwnS w0 w v os :=
  ⟨ownsRow_le h.1 hb.size, hb.trans (h.2.1.mono hb.size), h.2.2⟩
theorem OwnS.start (w : World) : OwnS w (w.alloc (.cells #[] 23)) (.slice (some ⟨w.heap.size, 0, none⟩) 0 0) [] :=
  ⟨World.ownsRow_made w #[] 0 (Nat.le_refl _) (Nat.zero_le _) rfl, bAl (bRef w) _, fun x hx => by simp at hx, by simp⟩
theorem LArg.one (w : World) (z : Int) (hz : In64 z) (t : TypeId) : LArg (w.alloc (.cells #[.int .i64 z] t)) (.slice (some ⟨w.heap.size, 0, none⟩) 1 1) [z] := by
  refine ⟨fun x hx => by simp at hx; rw [hx]; exact hz, .inr ⟨by simp, w.heap.size, 0, 1, rfl, Nat.le_refl _, fun _ => ⟨by simp, fun k hk => ?_⟩⟩⟩
  have : k = 0 := by simp at hk; omega
  subst this
  simp
theorem ownS_eq {a c : List Int} (h : OwnS w0 w v a) (e : a = c) : OwnS w0 w v c := e ▸ h
end

/-- The law of an append to what the call owns. -/
theorem wpList_appS {ops : Array Oper} {rest : List Oper} {o : Oper} {a : Act} {Q : Exit → Act → World → Prop} (hgd : o.guard = none) (s x : Operand)
    (ho : o.op = .call { callee := .builtin .append, args := #[s, x], argTypes := #[39, 39] })
    (w0 w : World) (v u : Value) (os xs : List Int) (hs : a.eval s = v) (hx : a.eval x = u) (hown : OwnS w0 w v os) (harg : LArg w u xs) (hl : os.length + xs.length ≤ 1000000)
    (h : ∀ v' w', OwnS w0 w' v' (os ++ xs) → wpList Try.prog ops Q rest (a.put o.dst v') w') : wpList Try.prog ops Q (o :: rest) a w := by
  obtain ⟨i0, hi, hz0, hz1, hz2⟩ := info_parts Try.infoS
  have hb0 := hown.bel
  have key : ∀ ad m c, u = .slice (some ad) m c → m = xs.length → (∀ j e, (sv xs)[j]? = some e → w.cell? (ad.add j) = some e) → wpList Try.prog ops Q (o :: rest) a w := by
    intro ad m c hu hm hc
    subst hm
    refine wpList_append_own w hgd s x 39 ho w0.heap.size 23 i0 (.int .i64 0) 1 8 Try.underlying39 hi hz0 hz1 hz2 rfl (by decide) v os.length (sv os) hs hown.1 ad xs.length c (sv xs) (hx.trans hu) (by rw [sv_len]; omega) hc (sv_one xs) (by unfold maxLen; omega) (by omega) hb0.size ?_
    intro v' w' h1 h2 h3
    refine h v' w' ⟨?_, hb0.grown h2 hb0.size (fun k hk => (hown.1.lt k hk).1), fun z hz => (List.mem_append.1 hz).elim (hown.2.2.1 z) (harg.1 z), fun e => hown.2.2.2 (h3.1 e).1⟩
    have e : sv (os ++ xs) = sv os ++ sv xs := by simp [sv]
    rw [e, List.length_append]
    exact h1
  rcases harg.2 with ⟨rfl, p, c, rfl, hp⟩ | ⟨h0, b, o', c, rfl, hc, hr⟩
  · cases p with
    | some ad => exact key ad 0 c rfl rfl (fun j e he => by simp [sv] at he)
    | none =>
      obtain rfl := hp rfl
      refine wpList_append_own_none hgd s x 39 ho w0.heap.size 23 i0 1 Try.underlying39 hi v os.length (sv os) hs hown.1 hx ?_
      have := h v w (by rw [List.append_nil]; exact hown)
      exact this
  · refine key _ _ c rfl rfl (fun j e he => ?_)
    have hj : j < xs.length := by
      have := (List.getElem?_eq_some_iff.1 he).1
      rwa [sv_len] at this
    rw [sv_at hj] at he
    rw [addr_add2, (hr h0).2 j hj]
    exact he

theorem q_nilS (w : World) (a : Option Addr) (n c n' c' : Nat) : (binOp .eql 39 (.slice a n c) (.slice none n' c')).run Try.prog w = .ok (.bool a.isNone) w :=
  Lib.run_eql_slice_nil w _ _ a n c n' c' Try.underlying39

/-- slices.Clone of what has an address. -/
theorem cloneS {p : Addr} {n c : Nat} {xs : List Int} {w : World} (h : LArg w (.slice (some p) n c) xs) (hl : xs.length ≤ 1000000) :
    Calls Try.prog 34 #[.slice (some p) n c] w fun e w' => ∃ v, e = .returned v ∧ OwnS w w' v xs := by
  have hl1 : ([] : List Int).length + xs.length ≤ 1000000 := by simpa using hl
  have H := Lib.hid h
  have HL := Lib.hid hl1
  clear h hl1
  have q := q_nilS
  go_enter Try.func34, Try.ntmps34
  go_wp2_with (at_builtin; refine wpList_appS rfl _ _ rfl w _ (.slice (some ⟨w.heap.size, 0, none⟩) 0 0) (.slice (some p) n c) [] xs rfl rfl (OwnS.start w) (H.out.below (bAl (bRef w) _)) HL.out ?_; intro v1 w1 hown)
  go_ret
  exact ⟨_, rfl, by simpa using hown⟩

theorem clamp_ret (s lo hi : Int) : RetQ 24 #[.int .i64 s, .int .i64 lo, .int .i64 hi] (.int .i64 (max (min s hi) lo)) := fun w => by
  go_enter Try.func24, Try.ntmps24
  go_wp2_with fail
  all_goals
    go_ret
    exact ⟨by simp; try omega, rfl⟩

end Go.Proofs.Ytglmkjnhkjljpaa
