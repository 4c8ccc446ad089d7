/- Bytes of the call's own; the same bytes. -/
import Derived.Test.YtcdcklkbjfhhnaaGByt
import Derived.Laws.AppendOwnNone
import Derived.Laws.BytesArg
import Derived.Lib.SmallJoins
namespace Go.Proofs.Ytcdcklkbjfhhnaa
open Go.RowKit Go.Joins

theorem Try.infoU8 : (Try.prog.info? 5).map (fun i => (i.zero, i.size, i.bytes)) = some (some (.int .u8 0), 1, 1) := by kernel_rfl
def bv (os : List Nat) : List Value := os.map fun (d : Nat) => Value.int .u8 (d : Int)
theorem bv_len (os : List Nat) : (bv os).length = os.length := by simp [bv]
theorem bv_at {os : List Nat} {k : Nat} (h : k < os.length) : (bv os)[k]? = some (.int .u8 ((os.getD k 0 : Nat) : Int)) := by
  simp [bv, List.getD_eq_getElem?_getD, List.getElem?_eq_getElem h]
theorem bv_one (os : List Nat) : ∀ u ∈ bv os, u.oneCell' = true := by
  intro u hu; obtain ⟨x, _, rfl⟩ := List.mem_map.1 hu; rfl
theorem bytes_app {a b : List Nat} (ha : Crc.Bytes a) (hb : Crc.Bytes b) : Crc.Bytes (a ++ b) := fun x hx => (List.mem_append.1 hx).elim (ha x) (hb x)
theorem addr_add (g j : Nat) : (⟨g, 0, none⟩ : Addr).add j = ⟨g, j, none⟩ := by
  unfold Addr.add; split <;> simp_all
theorem addr_add2 (g o j : Nat) : (⟨g, o, none⟩ : Addr).add j = ⟨g, o + j, none⟩ := by
  unfold Addr.add; split <;> simp_all

/-- The call's own bytes. -/
def OwnB (w0 w : World) (v : Value) (os : List Nat) : Prop :=
  w.ownsRow w0.heap.size 5 1 v os.length (bv os) ∧ Below w0.heap.size w0 w ∧ Crc.Bytes os ∧ v ≠ .slice none 0 0
def OwnPost (w : World) (xs : List Nat) (e : Ending) (w' : World) : Prop := ∃ v, e = .returned v ∧ OwnB w w' v xs

section
variable {w0 w w' : World} {v : Value} {os xs : List Nat}
theorem OwnB.form (h : OwnB w0 w v os) : ∃ g c, v = .slice (some ⟨g, 0, none⟩) os.length c ∧ os.length ≤ c ∧ w0.heap.size ≤ g ∧ g < w.heap.size := by
  rcases h.1.2 with ⟨e, _⟩ | ⟨g, cap, cur, e, hb, hg, hn, _⟩
  · exact absurd e h.2.2.2
  · refine ⟨g, cap, e, hn, hb, ?_⟩
    rcases Nat.lt_or_ge g w.heap.size with hlt | hge
    · exact hlt
    · rw [Array.getElem?_eq_none hge] at hg; cases hg
theorem OwnB.cell {g n c : Nat} (h : OwnB w0 w (.slice (some ⟨g, 0, none⟩) n c) os) {k : Nat} (hk : k < os.length) : w.cell? ⟨g, k, none⟩ = some (.int .u8 ((os.getD k 0 : Nat) : Int)) := by
  obtain ⟨g', c', e, _⟩ := h.form
  injection e with e1 e2 e3
  rw [e2] at h
  rw [h.1.cellAt k (by omega), bv_at hk]
theorem OwnB.frozen {g n c : Nat} (h : OwnB w0 w (.slice (some ⟨g, 0, none⟩) n c) os) (k : Nat) : w.frozen? ⟨g, k, none⟩ = false := by
  obtain ⟨g', c', e, _⟩ := h.form
  injection e with e1 e2 e3
  rw [e2] at h
  exact h.1.frozenAt k
theorem OwnB.arg (h : OwnB w0 w v os) : BArg w v os := by
  obtain ⟨g, c, rfl, hc, hb, hlt⟩ := h.form
  refine ⟨h.2.2.1, ?_⟩
  rcases Nat.eq_zero_or_pos os.length with h0 | h0
  · refine .inl ⟨List.eq_nil_of_length_eq_zero h0, some ⟨g, 0, none⟩, c, by rw [h0], fun e => by cases e⟩
  · exact .inr ⟨h0, g, 0, c, rfl, hc, fun _ => ⟨hlt, fun k hk => by rw [Nat.zero_add]; exact h.cell hk⟩⟩
theorem OwnB.below (h : OwnB w0 w v os) (hb : Below w.heap.size w w') : OwnB w0 w' v os := by
  refine ⟨⟨h.1.1, ?_⟩, h.2.1.trans (hb.mono h.2.1.size), h.2.2⟩
  rcases h.1.2 with ⟨rfl, hz⟩ | ⟨g, cap, cur, rfl, h1, hg, h3⟩
  · exact .inl ⟨rfl, hz⟩
  · exact .inr ⟨g, cap, cur, rfl, h1, (hb.block g (h.1.lt g (by simp [Value.ownBlock])).2).trans hg, h3⟩
theorem OwnB.drew (h : OwnB w0 w v os) : OwnB w0 w.drew v os := ⟨h.1, h.2.1.drew, h.2.2⟩
theorem OwnB.drewN (h : OwnB w0 w v os) (n : Nat) : OwnB w0 (w.drewN n) v os := ⟨h.1, bDr h.2.1 n, h.2.2⟩
theorem OwnB.bel (h : OwnB w0 w v os) : Below w0.heap.size w0 w := h.2.1
theorem OwnB.alloc (h : OwnB w0 w v os) (o : Obj) : OwnB w0 (w.alloc o) v os := h.below (bAl (bRef w) o)
theorem OwnB.set {g n c k d : Nat} (h : OwnB w0 w (.slice (some ⟨g, 0, none⟩) n c) os) (hd : d < 256) : OwnB w0 (w.setCell ⟨g, k, none⟩ (.int .u8 (d : Int))) (.slice (some ⟨g, 0, none⟩) n c) (os.set k d) := by
  obtain ⟨g', c', e, hc, hb, _⟩ := h.form
  injection e with e1 e2 e3
  injection e1 with e1
  injection e1 with e4
  subst e2
  have h2 := h.1.stored k (.int .u8 (d : Int))
  refine ⟨?_, h.2.1.setCell (by rw [e4]; exact hb) _, fun x hx => ?_, h.2.2.2⟩
  · have e : bv (os.set k d) = (bv os).set k (.int .u8 (d : Int)) := by unfold bv; rw [List.map_set]
    rw [e, List.length_set]
    exact h2.1
  · rcases List.mem_or_eq_of_mem_set hx with h1 | h1
    · exact h.2.2.1 x h1
    · omega
/-- Earlier memory's bases. -/
theorem OwnB.from {w1 : World} (hb : Below w0.heap.size w0 w1) (h : OwnB w1 w v os) : OwnB w0 w v os :=
  ⟨ownsRow_le h.1 hb.size, hb.trans (h.2.1.mono hb.size), h.2.2⟩
theorem OwnPost.from {w1 : World} {e : Ending} (hb : Below w0.heap.size w0 w1) (h : OwnPost w1 xs e w) : OwnPost w0 xs e w := by
  obtain ⟨v, e, h⟩ := h
  exact ⟨v, e, h.from hb⟩
/-- A new array without an element. -/
theorem OwnB.start (w : World) : OwnB w (w.alloc (.cells #[] 5)) (.slice (some ⟨w.heap.size, 0, none⟩) 0 0) [] :=
  ⟨World.ownsRow_made w #[] 0 (Nat.le_refl _) (Nat.zero_le _) rfl, bAl (bRef w) _, fun x hx => by simp at hx, by simp⟩
theorem BArg.one (w : World) (z : Nat) (hz : z < 256) (zi : Int) (he : zi = (z : Int)) (t : TypeId) : BArg (w.alloc (.cells #[.int .u8 zi] t)) (.slice (some ⟨w.heap.size, 0, none⟩) 1 1) [z] := by
  subst he
  refine ⟨fun x hx => by simp at hx; omega, .inr ⟨by simp, w.heap.size, 0, 1, rfl, Nat.le_refl _, fun _ => ⟨by simp, fun k hk => ?_⟩⟩⟩
  have : k = 0 := by simp at hk; omega
  subst this
  simp
end

/-- The law of an append to what the call owns. -/
theorem wpList_app {ops : Array Oper} {rest : List Oper} {o : Oper} {a : Act} {Q : Exit → Act → World → Prop} (hgd : o.guard = none) (s x : Operand)
    (ho : o.op = .call { callee := .builtin .append, args := #[s, x], argTypes := #[30, 30] })
    (w0 w : World) (v u : Value) (os xs : List Nat) (hs : a.eval s = v) (hx : a.eval x = u) (hown : OwnB w0 w v os) (harg : BArg w u xs) (hl : os.length + xs.length ≤ 140737488355328)
    (h : ∀ v' w', OwnB w0 w' v' (os ++ xs) → wpList Try.prog ops Q rest (a.put o.dst v') w') : wpList Try.prog ops Q (o :: rest) a w := by
  obtain ⟨i0, hi, hz0, hz1, hz2⟩ := info_parts Try.infoU8
  have hb0 := hown.bel
  have key : ∀ ad m c, u = .slice (some ad) m c → m = xs.length → (∀ j e, (bv xs)[j]? = some e → w.cell? (ad.add j) = some e) → wpList Try.prog ops Q (o :: rest) a w := by
    intro ad m c hu hm hc
    subst hm
    refine wpList_append_own w hgd s x 30 ho w0.heap.size 5 i0 (.int .u8 0) 1 1 Try.underlying30 hi hz0 hz1 hz2 rfl (by decide) v os.length (bv os) hs hown.1 ad xs.length c (bv xs) (hx.trans hu) (by rw [bv_len]; omega) hc (bv_one xs) (by unfold maxLen; omega) (by omega) hb0.size ?_
    intro v' w' h1 h2 h3
    refine h v' w' ⟨?_, hb0.grown h2 hb0.size (fun k hk => (hown.1.lt k hk).1), bytes_app hown.2.2.1 harg.1, fun e => hown.2.2.2 (h3.1 e).1⟩
    have e : bv (os ++ xs) = bv os ++ bv xs := by simp [bv]
    rw [e, List.length_append]
    exact h1
  rcases harg.2 with ⟨rfl, p, c, rfl, hp⟩ | ⟨h0, b, o', c, rfl, hc, hr⟩
  · cases p with
    | some ad => exact key ad 0 c rfl rfl (fun j e he => by simp [bv] at he)
    | none =>
      obtain rfl := hp rfl
      refine wpList_append_own_none hgd s x 30 ho w0.heap.size 5 i0 1 Try.underlying30 hi v os.length (bv os) hs hown.1 hx ?_
      have := h v w (by rw [List.append_nil]; exact hown)
      exact this
  · refine key _ _ c rfl rfl (fun j e he => ?_)
    have hj : j < xs.length := by
      have := (List.getElem?_eq_some_iff.1 he).1
      rwa [bv_len] at this
    rw [bv_at hj] at he
    rw [addr_add2, (hr h0).2 j hj]
    exact he

/-- The bytes as a text. -/
def txt (xs : List Nat) : ByteArray := strOfNums (xs.map fun x : Nat => (x : Int))
theorem txt_list (xs : List Nat) : (txt xs).toList = xs.map fun x => UInt8.ofNat x := by
  have : (txt xs).data.toList = xs.map fun x => UInt8.ofNat x := by
    simp [txt, strOfNums]
  rw [← this]
  exact ByteArray.toList_eq _
theorem bytes_back {l : List Nat} (hl : Crc.Bytes l) : l.map (UInt8.toNat ∘ fun x => UInt8.ofNat x) = l := by
  conv => rhs; rw [← List.map_id l]
  refine List.map_congr_left fun x hxl => ?_
  have := hl x hxl
  simp; omega

theorem BArg.conv {w : World} {p : Option Addr} {n c : Nat} {xs : List Nat} (h : BArg w (.slice p n c) xs) :
    (convert 30 9 (.slice p n c)).run Try.prog w = .ok (.string (txt xs)) w := by
  rcases h.2 with ⟨rfl, p', c', e, hp⟩ | ⟨h0, b, o, c', e, hc, hr⟩
  · injection e with e1 e2 e3
    subst e1 e2 e3
    cases p with
    | some ad =>
      obtain ⟨b, o, s⟩ := ad
      have := run_convert_bytes_string (P := Try.prog) w 30 9 5 (some ⟨b, o, s⟩) 0 c Try.underlying30 Try.underlying5 Try.underlying9
      rw [this, run_bytesToString w ⟨b, o, s⟩ 0 c [] (by simp [loadCells, loadCellsFrom])]
      rfl
    | none => exact run_convert_bytes_nil (P := Try.prog) w 30 5 Try.underlying30 Try.underlying5 0 c _ Try.underlying9
  · injection e with e1 e2 e3
    subst e1 e2 e3
    exact run_convert_bytes_arg (P := Try.prog) w 30 5 Try.underlying30 Try.underlying5 b o xs.length c (xs.map fun x : Nat => (x : Int)) (by simp) (fun i hi => by
      rw [(hr h0).2 i hi]; simp [List.getD_eq_getElem?_getD, List.getElem?_eq_getElem hi]) _ Try.underlying9
theorem BArg.slice {w : World} {v : Value} {xs : List Nat} (h : BArg w v xs) : ∃ p c, v = .slice p xs.length c := by
  rcases h.2 with ⟨rfl, p, c, rfl, _⟩ | ⟨_, b, o, c, rfl, _⟩
  · exact ⟨p, c, rfl⟩
  · exact ⟨_, c, rfl⟩

end Go.Proofs.Ytcdcklkbjfhhnaa
