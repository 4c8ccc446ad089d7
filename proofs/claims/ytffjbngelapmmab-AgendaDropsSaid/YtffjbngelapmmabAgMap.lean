/- A map of ints to bools that is all true: which keys it has. -/
import Derived.Test.YtffjbngelapmmabAgStM
import Derived.Maps.Own
import Derived.Maps.OwnSet
import Derived.Maps.Views
namespace Go.Proofs.Ytffjbngelapmmab
open Go.RowKit Go.Joins Go.Maps

theorem Try.keyI : Keyed Try.prog 3 := int_keyed Try.underlying3
theorem zeroB (w : World) : (zeroValue 4).run Try.prog w = .ok (.bool false) w := by kernel_rfl
def kl (x : Int) : Lit := .int .i64 x
/-- The map has just these keys. -/
def MapG (w : World) (b n : Nat) (G : List Int) : Prop :=
  ∃ D : DataW Unit, w.ownsMap Try.prog 3 (plainElem Try.prog 4) b n D ∧ Tidy D ∧ (∀ x, D.atKey (kl x) (.lit (.bool false)) = .lit (.bool (decide (x ∈ G)))) ∧ (∀ x, has D (kl x) = decide (x ∈ G)) ∧ size D = G.length
theorem mapG_made (w : World) : MapG (w.alloc (.map #[] 0)) w.heap.size 0 [] :=
  ⟨.map [], World.ownsMap_made _ _ _ _, tidy_empty, fun x => by simp; rfl, fun x => by simp [has], rfl⟩
theorem wf64 {x : Int} (h : In64 x) : (Lit.int .i64 x).wf = true := by
  unfold In64 at h
  have e : wrap64 x = x := by unfold wrap64; omega
  rw [← e]
  exact wrap64_wf x
theorem plainBool_inv {v : Value} {z : DataW Unit × List MemPlace} {c : Bool} (h : plainElem Try.prog 4 v = some z) (hz : z.1 = .lit (.bool c)) : v = .bool c := by
  unfold plainElem at h
  rw [Try.underlying4] at h
  cases v <;> simp at h
  subst h
  simp at hz
  rw [hz]
theorem key_of {x : Int} (hx : In64 x) : keyOf Try.prog 3 (.int .i64 x) = some (kl x) := keyOf_int_mk Try.underlying3 (wf64 hx)
theorem MapG.look {w : World} {b n : Nat} {G : List Int} (h : MapG w b n G) (x : Int) (hx : In64 x) : (Instr.lookup 42 (.map (some b)) (.int .i64 x) false).run Try.prog w = .ok (.bool (decide (x ∈ G))) w := by
  obtain ⟨D, h1, h2, h3, h4, h5⟩ := h
  obtain ⟨v, ps, hrun, hv⟩ := h1.lookup Try.keyI Try.underlying42 (zeroB w) (zd := .lit (.bool false)) (zp := []) (plainElem_bool Try.underlying4 false) (key_of hx)
  rw [h3] at hv
  rw [hrun, plainBool_inv hv rfl]
theorem MapG.put {w : World} {b n : Nat} {G : List Int} (h : MapG w b n G) (x : Int) (hx : In64 x) (hno : x ∉ G) (hn : n < 1000000) : ∃ w', (Instr.mapUpdate 42 (.map (some b)) (.int .i64 x) (.bool true)).run Try.prog w = .ok () w' ∧ MapG w' b (n + 1) (x :: G) ∧ w.grownBy w' (some b) := by
  obtain ⟨D, h1, h2, h3, h4, h5⟩ := h
  obtain ⟨w', hrun, hown, hgr⟩ := h1.update Try.keyI Try.underlying42 (by unfold maxLen; omega) (key_of hx) (plainElem_bool Try.underlying4 true)
  have hk : WideAt.IsKeyLit (kl x) := by unfold kl; trivial
  have hne : ∀ y, y ≠ x → kl y ≠ kl x := fun y hy e => hy (by unfold kl at e; injection e)
  refine ⟨w', hrun, ⟨_, hown, h2.put hk _, fun y => ?_, fun y => ?_, ?_⟩, hgr⟩
  · by_cases e : y = x
    · subst e
      rw [atKey_put_same h2.isMap hk]; simp
    · rw [atKey_put_other (hne y e), h3]; simp [e]
  · by_cases e : y = x
    · subst e
      rw [has_put_same h2.isMap hk]; simp
    · rw [has_put_other (hne y e), h4]; simp [e]
  · rw [size_put h2, h4, h5]
    simp [hno]
theorem MapG.len {w : World} {b n : Nat} {G : List Int} (h : MapG w b n G) (ty : TypeId) : (Builtin.len_ #[42] ty #[.map (some b)]).run Try.prog w = .ok (.int .i64 (G.length : Int)) w := by
  obtain ⟨D, h1, h2, h3, h4, h5⟩ := h
  rw [h1.len Try.underlying42 ty, h5]
theorem MapG.obj {w : World} {b n : Nat} {G : List Int} (h : MapG w b n G) : ∃ es cl, w.heap[b]? = some (.map es cl) := by
  obtain ⟨D, ⟨es, cl, hb, _⟩, _⟩ := h
  exact ⟨es, cl, hb⟩
theorem MapG.kept {w w' : World} {b n : Nat} {G : List Int} {ts : List TypeId} (h : MapG w b n G) (hk : AgI.KeptT ts w w') : MapG w' b n G := by
  obtain ⟨D, ⟨es, cl, hb, hr⟩, hr2⟩ := h
  exact ⟨D, ⟨es, cl, hk b _ hb (fun cs t fr e => by cases e), hr⟩, hr2⟩
/-- A map's update leaves agendas as they were. -/
theorem st_map {B b : Nat} {w w' : World} {g : Nat} {now last : Int} {S : List (Int × Int × Int)} (h : AgI.St B w g now last S) (hgr : w.grownBy w' (some b)) (hb : ∃ es cl, w.heap[b]? = some (.map es cl)) : AgI.St B w' g now last S := by
  obtain ⟨es, cl, hb⟩ := hb
  obtain ⟨l, ⟨h0, v, h1, h2⟩, h3, h4⟩ := h
  have kb : ∀ (k : Nat) (cs : Array Value) (t : TypeId) (fr : Nat × Nat), w.heap[k]? = some (.cells cs t fr) → w'.heap[k]? = some (.cells cs t fr) := fun k cs t fr hk => by
    rw [hgr.block k (AgI.lt_of_heap hk) (fun e => ?_)]
    · exact hk
    · injection e with e
      subst e
      rw [hb] at hk
      cases hk
  refine ⟨l, ⟨h0, v, kb _ _ _ _ h1, ⟨h2.1.1, ?_⟩, fun e he => ⟨(h2.2 e he).1, kb _ _ _ _ (h2.2 e he).2⟩⟩, h3, h4⟩
  rcases h2.1.2 with hz | ⟨r, cap, cur, e, h5, hg, h6⟩
  · exact .inl hz
  · exact .inr ⟨r, cap, cur, e, h5, kb _ _ _ _ hg, h6⟩

end Go.Proofs.Ytffjbngelapmmab
