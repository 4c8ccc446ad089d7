/- A map as a list of what it has: whatever its keys and its elements. -/
import Derived.Test.YtkbodcgamfkegaaProg
import Derived.Below
import Derived.WalkKit
import Derived.WalkMore
import Derived.BigQuiet
import Derived.Lib.Hide
import Derived.Lib.SmallJoins
import Derived.Deep.DeepCutAuto
import Derived.Deep.RegionHeld3
import Derived.Maps.Own
import Derived.Maps.OwnSet
import Derived.Maps.Views
import Derived.Maps.Range
import Derived.Maps.RangeWalk
import Derived.DeepKeys4
namespace Go.Proofs.Ytkbodcgamfkegaa
open Go.RowKit Go.Joins Go.Maps Go.MapKept Go.ChangeMaps

section
variable {α β : Type} [DecidableEq α]
def lookL (L : List (α × β)) (a : α) : Option β := (L.find? (fun e => decide (e.1 = a))).map (·.2)
def delL (L : List (α × β)) (a : α) : List (α × β) := L.filter (fun e => !decide (e.1 = a))
def putL (L : List (α × β)) (a : α) (b : β) : List (α × β) := (a, b) :: delL L a
theorem mem_delL {L : List (α × β)} {a : α} {e : α × β} : e ∈ delL L a ↔ e ∈ L ∧ e.1 ≠ a := by simp [delL]
theorem lookL_none {L : List (α × β)} {a : α} : lookL L a = none ↔ ∀ e ∈ L, e.1 ≠ a := by
  unfold lookL
  rw [Option.map_eq_none_iff, List.find?_eq_none]
  simp
theorem lookL_mem {L : List (α × β)} {a : α} {b : β} (h : lookL L a = some b) : (a, b) ∈ L := by
  unfold lookL at h
  rw [Option.map_eq_some_iff] at h
  obtain ⟨e, h1, rfl⟩ := h
  have h2 := List.find?_some h1
  simp at h2
  have h3 := List.mem_of_find?_eq_some h1
  rw [← h2]; exact h3
theorem lookL_of_mem {L : List (α × β)} (hn : (L.map (·.1)).Nodup) {a : α} {b : β} (h : (a, b) ∈ L) : lookL L a = some b := by
  induction L with
  | nil => simp at h
  | cons x L ih =>
    simp only [List.map_cons, List.nodup_cons] at hn
    unfold lookL
    rw [List.find?_cons]
    rcases List.mem_cons.1 h with h1 | h1
    · subst h1; simp
    · have : x.1 ≠ a := fun e => hn.1 (by rw [e]; exact List.mem_map.2 ⟨_, h1, rfl⟩)
      simp only [this, decide_false]
      exact ih hn.2 h1
theorem lookL_put_same (L : List (α × β)) (a : α) (b : β) : lookL (putL L a b) a = some b := by simp [lookL, putL]
theorem lookL_del_same (L : List (α × β)) (a : α) : lookL (delL L a) a = none := lookL_none.2 fun _ he => (mem_delL.1 he).2
theorem lookL_del_other (L : List (α × β)) {a c : α} (h : c ≠ a) : lookL (delL L a) c = lookL L c := by
  unfold lookL delL
  congr 1
  induction L with
  | nil => rfl
  | cons x L ih =>
    by_cases hx : x.1 = a
    · have : x.1 ≠ c := fun e => h (e ▸ hx)
      simp [hx, List.find?_cons, ih]
      rw [show decide (a = c) = false from decide_eq_false (fun e => h e.symm)]
    · simp [hx, List.find?_cons, ih]
theorem lookL_put_other (L : List (α × β)) {a c : α} (b : β) (h : c ≠ a) : lookL (putL L a b) c = lookL L c := by
  have e : lookL (putL L a b) c = lookL (delL L a) c := by
    unfold lookL putL
    rw [List.find?_cons, show decide ((a, b).1 = c) = false from decide_eq_false (fun e => h e.symm)]
  rw [e, lookL_del_other L h]
theorem nodup_delL {L : List (α × β)} (hn : (L.map (·.1)).Nodup) (a : α) : ((delL L a).map (·.1)).Nodup := by
  unfold delL
  exact List.Nodup.sublist (List.Sublist.map _ List.filter_sublist) hn
theorem nodup_putL {L : List (α × β)} (hn : (L.map (·.1)).Nodup) (a : α) (b : β) : ((putL L a b).map (·.1)).Nodup := by
  unfold putL
  rw [List.map_cons, List.nodup_cons]
  refine ⟨fun h => ?_, nodup_delL hn a⟩
  obtain ⟨e, he, h1⟩ := List.mem_map.1 h
  exact (mem_delL.1 he).2 h1
theorem len_delL {L : List (α × β)} (hn : (L.map (·.1)).Nodup) (a : α) : (delL L a).length + (if (lookL L a).isSome then 1 else 0) = L.length := by
  induction L with
  | nil => rfl
  | cons x L ih =>
    simp only [List.map_cons, List.nodup_cons] at hn
    have h := ih hn.2
    by_cases hx : x.1 = a
    · subst hx
      have e1 : lookL L x.1 = none := lookL_none.2 fun e he h1 => hn.1 (by rw [← h1]; exact List.mem_map.2 ⟨_, he, rfl⟩)
      have e2 : lookL (x :: L) x.1 = some x.2 := by simp [lookL]
      have e3 : delL (x :: L) x.1 = delL L x.1 := by simp [delL]
      rw [e1] at h
      rw [e2, e3]
      simp at h ⊢
      omega
    · have e2 : lookL (x :: L) a = lookL L a := by unfold lookL; rw [List.find?_cons, show decide (x.1 = a) = false from decide_eq_false hx]
      have e3 : delL (x :: L) a = x :: delL L a := by simp [delL, hx]
      rw [e2, e3]
      simp only [List.length_cons]
      omega
theorem delL_none {L : List (α × β)} {a : α} (h : lookL L a = none) : delL L a = L := by
  unfold delL
  rw [List.filter_eq_self]
  intro e he
  simpa using lookL_none.1 h e he
end

/-- A kind of map: its types, its keys, its elements. -/
structure MK (P : Program) (α β : Type) where
  t : TypeId
  k : TypeId
  e : TypeId
  K : Keyed P k
  ht : P.underlying t = some (.map k e)
  good : α → Prop
  mkK : α → Value
  kl : α → Lit
  key : ∀ a, good a → keyOf P k (mkK a) = some (kl a)
  inj : ∀ a b, mkK a = mkK b → a = b
  mkV : β → Value
  R : Value → Option (DataW Unit × List MemPlace)
  enc : β → DataW Unit
  hR : ∀ c, R (mkV c) = some (enc c, [])
  invR : ∀ v c ps, R v = some (enc c, ps) → v = mkV c
  zero : β
  hz : ∀ w, (zeroValue e).run P w = .ok (mkV zero) w

section
variable {P : Program} {α β : Type} (M : MK P α β)
theorem MK.klinj {a b : α} (ha : M.good a) (hb : M.good b) (h : M.kl a = M.kl b) : a = b :=
  M.inj a b (M.K.inj (M.key a ha) (h ▸ M.key b hb))
theorem MK.isKey {a : α} (ha : M.good a) : WideAt.IsKeyLit (M.kl a) := M.K.key (M.key a ha)
/-- What the datum says. -/
structure Says (D : DataW Unit) (L : List (α × β)) : Prop where
  tidy : Tidy D
  has : ∀ l, has D l = true ↔ ∃ e ∈ L, l = M.kl e.1
  at_ : ∀ e ∈ L, ∀ zd, D.atKey (M.kl e.1) zd = M.enc e.2
  size : size D = L.length
  nodup : (L.map (·.1)).Nodup
  good : ∀ e ∈ L, M.good e.1
/-- Block b is a map that has just these. -/
def MapL (w : World) (b n : Nat) (L : List (α × β)) : Prop := ∃ D, w.ownsMap P M.k M.R b n D ∧ Says M D L

variable {M} {w w' : World} {b n : Nat} {L : List (α × β)} {D : DataW Unit}
theorem Says.has_iff [DecidableEq α] (h : Says M D L) {a : α} (ha : M.good a) : Maps.has D (M.kl a) = (lookL L a).isSome := by
  rcases hl : lookL L a with _ | c
  · cases hh : Maps.has D (M.kl a)
    · rfl
    · obtain ⟨e, he, h1⟩ := (h.has _).1 hh
      exact absurd (M.klinj ha (h.good e he) h1).symm (lookL_none.1 hl e he)
  · exact (h.has _).2 ⟨_, lookL_mem hl, rfl⟩
theorem Says.at_iff [DecidableEq α] (h : Says M D L) {a : α} (ha : M.good a) : D.atKey (M.kl a) (M.enc M.zero) = M.enc ((lookL L a).getD M.zero) := by
  rcases hl : lookL L a with _ | c
  · exact atKey_of_not_has (by rw [h.has_iff ha, hl]; rfl) _
  · exact h.at_ _ (lookL_mem hl) _
theorem Says.put [DecidableEq α] (h : Says M D L) {a : α} (ha : M.good a) (c : β) : Says M (D.put (M.kl a) (M.enc c)) (putL L a c) := by
  have hk := M.isKey ha
  refine ⟨h.tidy.put hk _, fun l => ?_, fun e he zd => ?_, ?_, nodup_putL h.nodup a c, fun e he => ?_⟩
  · by_cases hl : l = M.kl a
    · subst hl
      rw [has_put_same h.tidy.isMap hk]
      exact ⟨fun _ => ⟨_, List.mem_cons_self .., rfl⟩, fun _ => rfl⟩
    · rw [has_put_other hl, h.has]
      constructor
      · rintro ⟨e, he, rfl⟩
        exact ⟨e, List.mem_cons_of_mem _ (mem_delL.2 ⟨he, fun e1 => hl (by rw [e1])⟩), rfl⟩
      · rintro ⟨e, he, rfl⟩
        rcases List.mem_cons.1 he with rfl | he
        · exact absurd rfl hl
        · exact ⟨e, (mem_delL.1 he).1, rfl⟩
  · rcases List.mem_cons.1 he with rfl | he
    · exact atKey_put_same h.tidy.isMap hk _ _
    · obtain ⟨h1, h2⟩ := mem_delL.1 he
      rw [atKey_put_other (fun e1 => h2 (M.klinj (h.good e h1) ha e1))]
      exact h.at_ e h1 zd
  · rw [size_put h.tidy, h.has_iff ha, h.size]
    have := len_delL h.nodup a
    unfold putL
    rw [List.length_cons]
    split <;> simp_all <;> omega
  · rcases List.mem_cons.1 he with rfl | he
    · exact ha
    · exact h.good e (mem_delL.1 he).1
theorem Says.del [DecidableEq α] (h : Says M D L) {a : α} (ha : M.good a) : Says M (D.del (M.kl a)) (delL L a) := by
  refine ⟨h.tidy.del _, fun l => ?_, fun e he zd => ?_, ?_, nodup_delL h.nodup a, fun e he => h.good e (mem_delL.1 he).1⟩
  · by_cases hl : l = M.kl a
    · subst hl
      rw [has_del_same]
      constructor
      · intro h1; cases h1
      · rintro ⟨e, he, h1⟩
        obtain ⟨h2, h3⟩ := mem_delL.1 he
        exact absurd (M.klinj ha (h.good e h2) h1).symm h3
    · rw [has_del_other hl, h.has]
      constructor
      · rintro ⟨e, he, rfl⟩
        exact ⟨e, mem_delL.2 ⟨he, fun e1 => hl (by rw [e1])⟩, rfl⟩
      · rintro ⟨e, he, rfl⟩
        exact ⟨e, (mem_delL.1 he).1, rfl⟩
  · obtain ⟨h1, h2⟩ := mem_delL.1 he
    rw [atKey_del_other (fun e1 => h2 (M.klinj (h.good e h1) ha e1))]
    exact h.at_ e h1 zd
  · have h1 := size_del (k := M.kl a) h.tidy
    have h2 := len_delL h.nodup a
    rw [h.has_iff ha, h.size] at h1
    omega
theorem Says.nil : Says M (.map [] : DataW Unit) ([] : List (α × β)) :=
  ⟨tidy_empty, fun l => by simp [Maps.has], fun e he => by simp at he, rfl, List.nodup_nil, fun e he => by simp at he⟩

theorem mapL_made (w : World) : MapL M (w.alloc (.map #[] 0)) w.heap.size 0 ([] : List (α × β)) := ⟨.map [], World.ownsMap_made _ _ _ _, Says.nil⟩
theorem MapL.mono (h : MapL M w b n L) {m : Nat} (hm : n ≤ m) : MapL M w b m L := by
  obtain ⟨D, h1, h2⟩ := h
  exact ⟨D, h1.mono hm, h2⟩
theorem MapL.look [DecidableEq α] (h : MapL M w b n L) (a : α) (ha : M.good a) : (Instr.lookup M.t (.map (some b)) (M.mkK a) false).run P w = .ok (M.mkV ((lookL L a).getD M.zero)) w := by
  obtain ⟨D, h1, h2⟩ := h
  obtain ⟨v, ps, hrun, hv⟩ := h1.lookup M.K M.ht (M.hz w) (M.hR M.zero) (M.key a ha)
  rw [h2.at_iff ha] at hv
  rw [hrun, M.invR _ _ _ hv]
theorem MapL.look_ok [DecidableEq α] (h : MapL M w b n L) (a : α) (ha : M.good a) : (Instr.lookup M.t (.map (some b)) (M.mkK a) true).run P w = .ok (.tuple #[M.mkV ((lookL L a).getD M.zero), .bool (lookL L a).isSome]) w := by
  obtain ⟨D, h1, h2⟩ := h
  obtain ⟨v, ps, hrun, hv⟩ := h1.look_ok M.K M.ht (M.hz w) (M.hR M.zero) (M.key a ha)
  rw [h2.at_iff ha] at hv
  rw [hrun, M.invR _ _ _ hv, h2.has_iff ha]
theorem MapL.put [DecidableEq α] (h : MapL M w b n L) (a : α) (ha : M.good a) (c : β) (hn : n < maxLen) : ∃ w', (Instr.mapUpdate M.t (.map (some b)) (M.mkK a) (M.mkV c)).run P w = .ok () w' ∧ MapL M w' b (n + 1) (putL L a c) ∧ w.mapTurned w' b := by
  obtain ⟨D, h1, h2⟩ := h
  obtain ⟨w', hrun, hown, hgr⟩ := h1.store M.K M.ht hn (M.key a ha) (M.hR c)
  exact ⟨w', hrun, ⟨_, hown, h2.put ha c⟩, hgr⟩
theorem MapL.del [DecidableEq α] (h : MapL M w b n L) (a : α) (ha : M.good a) (ty : TypeId) : ∃ w', (Builtin.delete_ #[M.t, M.k] ty #[.map (some b), M.mkK a]).run P w = .ok (.tuple #[]) w' ∧ MapL M w' b n (delL L a) ∧ w.mapTurned w' b := by
  obtain ⟨D, h1, h2⟩ := h
  obtain ⟨w', hrun, hown, hgr⟩ := h1.drop M.K M.ht (M.key a ha) ty
  exact ⟨w', hrun, ⟨_, hown, h2.del ha⟩, hgr⟩
theorem MapL.len (h : MapL M w b n L) (ty : TypeId) : (Builtin.len_ #[M.t] ty #[.map (some b)]).run P w = .ok (.int .i64 (L.length : Int)) w := by
  obtain ⟨D, h1, h2⟩ := h
  rw [h1.len M.ht ty, h2.size]
theorem MapL.lt (h : MapL M w b n L) : b < w.heap.size := by
  obtain ⟨D, h1, h2⟩ := h
  exact h1.lt
theorem MapL.nodup (h : MapL M w b n L) : (L.map (·.1)).Nodup := by
  obtain ⟨D, h1, h2⟩ := h
  exact h2.nodup
theorem MapL.good (h : MapL M w b n L) : ∀ e ∈ L, M.good e.1 := by
  obtain ⟨D, h1, h2⟩ := h
  exact h2.good
theorem MapL.heap (h : MapL M w b n L) (hb : w'.heap[b]? = w.heap[b]?) : MapL M w' b n L := by
  obtain ⟨D, ⟨es, cl, h1, hr⟩, h2⟩ := h
  exact ⟨D, ⟨es, cl, hb.trans h1, hr⟩, h2⟩
theorem MapL.le (h : MapL M w b n L) : L.length ≤ n := by
  obtain ⟨D, h1, h2⟩ := h
  have := h1.size_le
  rw [h2.size] at this
  exact this

/-- In a range over it: what is to come. -/
def RngL (M : MK P α β) (w : World) (b r n : Nat) (L : List (α × β)) (left : Lit → Bool) (cnt : Nat) : Prop := ∃ D, w.ranges P M.k M.R b r n D left cnt ∧ Says M D L
variable {r cnt : Nat} {left : Lit → Bool}
theorem MapL.range (h : MapL M w b n L) : ∃ w', (Instr.range M.t (.map (some b))).run P w = .ok (.pointer (some ⟨w.heap.size, 0, none⟩)) w' ∧ ∃ left cnt, RngL M w' b w.heap.size n L left cnt ∧ (∀ l, left l = true ↔ ∃ e ∈ L, l = M.kl e.1) ∧ w.grownBy w' none ∧ w'.heap.size = w.heap.size + 1 := by
  obtain ⟨D, h1, h2⟩ := h
  obtain ⟨w', hrun, hr, hg, hs⟩ := h1.range M.K M.ht
  exact ⟨w', hrun, _, _, ⟨D, hr, h2⟩, h2.has, hg, hs⟩
theorem RngL.mapL (h : RngL M w b r n L left cnt) : MapL M w b n L := by
  obtain ⟨D, h1, h2⟩ := h
  exact ⟨D, h1.owns, h2⟩
theorem RngL.next (h : RngL M w b r n L left cnt) (hsub : ∀ l, left l = true → ∃ e ∈ L, l = M.kl e.1) (ty : TypeId) :
    ((∀ l, left l = false) ∧ (Instr.next (.pointer (some ⟨r, 0, none⟩)) false ty).run P w = .ok (.tuple #[.bool false]) w) ∨
    ∃ e ∈ L, left (M.kl e.1) = true ∧ ∃ w' cnt', (Instr.next (.pointer (some ⟨r, 0, none⟩)) false ty).run P w = .ok (.tuple #[.bool true, M.mkK e.1, M.mkV e.2]) w' ∧ RngL M w' b r n L (fun x => left x && !x.sameKey (M.kl e.1)) cnt' ∧ cnt' < cnt ∧ w.grownBy w' (some r) ∧ w'.heap.size = w.heap.size ∧
      (Instr.entry (.pointer (some ⟨r, 0, none⟩))).run P w' = .ok (.tuple #[M.mkK e.1, M.mkV e.2]) w' := by
  obtain ⟨D, h1, h2⟩ := h
  rcases h1.next M.K ty with ⟨h0, hl, hrun⟩ | ⟨key, v, kl, y, w', cnt', hkey, hlk, hv, hat, hrun, hrg, hlt, hgr, hsz, hen⟩
  · exact .inl ⟨hl, hrun⟩
  · obtain ⟨e, he, rfl⟩ := hsub kl hlk
    have hge := h2.good e he
    have e1 : key = M.mkK e.1 := M.K.inj hkey (M.key _ hge)
    subst e1
    have e2 : y = (M.enc e.2, y.2) := by
      have := (hat (M.enc M.zero)).symm.trans (h2.at_ e he (M.enc M.zero))
      rw [← this]
    rw [e2] at hv
    have e3 := M.invR _ _ _ hv
    subst e3
    exact .inr ⟨e, he, hlk, w', cnt', hrun, ⟨D, hrg, h2⟩, hlt, hgr, hsz, hen⟩
theorem RngL.del [DecidableEq α] (h : RngL M w b r n L left cnt) (a : α) (ha : M.good a) (ty : TypeId) : ∃ w' cnt', (Builtin.delete_ #[M.t, M.k] ty #[.map (some b), M.mkK a]).run P w = .ok (.tuple #[]) w' ∧ RngL M w' b r n (delL L a) (fun x => left x && !x.sameKey (M.kl a)) cnt' ∧ cnt' ≤ cnt ∧ w.mapTurned w' b := by
  obtain ⟨D, h1, h2⟩ := h
  obtain ⟨w', cnt', hrun, hrg, hle, hgr⟩ := h1.drop M.K M.ht (M.key a ha) ty
  exact ⟨w', cnt', hrun, ⟨_, hrg, h2.del ha⟩, hle, hgr⟩
theorem RngL.left_eq (h : RngL M w b r n L left cnt) : w.rangeLeft b r = cnt := by
  obtain ⟨D, h1, h2⟩ := h
  exact h1.left_eq
theorem RngL.kept {row : Option Nat} (h : RngL M w b r n L left cnt) (hg : w.grownBy w' row) (hb : some b ≠ row) (hr : some r ≠ row) : RngL M w' b r n L left cnt := by
  obtain ⟨D, h1, h2⟩ := h
  exact ⟨D, h1.kept hg hb hr, h2⟩
end

end Go.Proofs.Ytkbodcgamfkegaa
