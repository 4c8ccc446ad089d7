/- The law's own row of what is to come: three cells each. -/
import Derived.Test.YtnddiobjojnckaaAgOArg
import Derived.Test.YtnddiobjojnckaaAgStM
namespace Go.Proofs.Ytnddiobjojnckaa
open Go.RowKit Go.Joins

theorem Try.infoItem : (Try.prog.info? 33).map (fun i => (i.zero, i.size, i.bytes)) = some (some (.agg #[.int .i64 0, .int .i64 0, .int .i64 0]), 3, 24) := by kernel_rfl
abbrev It := Int × Int × Int
def one3 (s : It) : List Value := [.int .i64 s.1, .int .i64 s.2.1, .int .i64 s.2.2]
def iv3 (L : List It) : List Value := L.flatMap one3
theorem iv3_app (L M : List It) : iv3 (L ++ M) = iv3 L ++ iv3 M := by unfold iv3; rw [List.flatMap_append]
theorem iv3_len (L : List It) : (iv3 L).length = L.length * 3 := by
  induction L with
  | nil => rfl
  | cons s L ih => rw [show s :: L = [s] ++ L from rfl, iv3_app, List.length_append, ih]; simp [iv3, one3]; omega
theorem iv3_one (L : List It) : ∀ u ∈ iv3 L, u.oneCell' = true := by
  intro u hu
  obtain ⟨s, _, hs⟩ := List.mem_flatMap.1 hu
  simp [one3] at hs
  rcases hs with rfl | rfl | rfl <;> rfl
def it (L : List It) (k : Nat) : It := L.getD k (0, 0, 0)
theorem iv3_at : ∀ (L : List It) (k : Nat), k < L.length → (iv3 L)[k * 3]? = some (.int .i64 (it L k).1) ∧ (iv3 L)[k * 3 + 1]? = some (.int .i64 (it L k).2.1) ∧ (iv3 L)[k * 3 + 2]? = some (.int .i64 (it L k).2.2)
  | [], k, h => by simp at h
  | s :: L, 0, _ => ⟨rfl, rfl, rfl⟩
  | s :: L, k + 1, h => by
    have := iv3_at L k (by simpa using h)
    rw [show iv3 (s :: L) = one3 s ++ iv3 L from rfl, List.getElem?_append_right (by simp [one3]; omega), List.getElem?_append_right (by simp [one3]; omega), List.getElem?_append_right (by simp [one3]; omega)]
    rw [show (k + 1) * 3 - (one3 s).length = k * 3 by simp [one3]; omega, show (k + 1) * 3 + 1 - (one3 s).length = k * 3 + 1 by simp [one3]; omega, show (k + 1) * 3 + 2 - (one3 s).length = k * 3 + 2 by simp [one3]; omega]
    exact this
/-- The row. -/
def Its (B : Nat) (w : World) (v : Value) (L : List It) : Prop := w.ownsRow B 33 3 v L.length (iv3 L)
section
variable {B B' : Nat} {w w' : World} {v : Value} {L : List It} {g : Nat} {now last : Int} {S : List It}
theorem Its.kept (h : Its B w v L) (hk : AgI.KeptT AgI.K2 w w') : Its B w' v L := by
  refine ⟨h.1, ?_⟩
  rcases h.2 with ⟨rfl, hz⟩ | ⟨r, cap, cur, rfl, hb, hg, hr⟩
  · exact .inl ⟨rfl, hz⟩
  · exact .inr ⟨r, cap, cur, rfl, hb, hk _ _ hg (fun cs t fr e => by injection e with _ e2 _; rw [← e2]; decide), hr⟩
theorem Its.below (h : Its B w v L) (hb : Below w.heap.size w w') : Its B w' v L := h.kept (AgI.KeptT.of_below hb)
theorem Its.form (h : Its B w v L) : ∃ p c, v = .slice p L.length c := by
  rcases h.2 with ⟨rfl, hz⟩ | ⟨r, cap, cur, rfl, _⟩
  · exact ⟨none, 0, by rw [hz]⟩
  · exact ⟨_, cap, rfl⟩
theorem Its.row (h : Its B w v L) (h0 : 0 < L.length) : ∃ r cap, v = .slice (some ⟨r, 0, none⟩) L.length cap ∧ B ≤ r ∧ r < w.heap.size ∧ L.length ≤ cap ∧ ∀ k, k < L.length → w.cell? ⟨r, k * 3, none⟩ = some (.int .i64 (it L k).1) ∧ w.cell? ⟨r, k * 3 + 1, none⟩ = some (.int .i64 (it L k).2.1) ∧ w.cell? ⟨r, k * 3 + 2, none⟩ = some (.int .i64 (it L k).2.2) := by
  have h' := h
  rcases h.2 with ⟨rfl, hz⟩ | ⟨r, cap, cur, rfl, hb, hg, hn, _, hs, ht⟩
  · omega
  · refine ⟨r, cap, rfl, hb, AgI.lt_of_heap hg, hn, fun k hk => ?_⟩
    have ha := iv3_at L k hk
    unfold Its at h'
    rw [h'.cellAt (k * 3) (by omega), h'.cellAt (k * 3 + 1) (by omega), h'.cellAt (k * 3 + 2) (by omega)]
    exact ha
/-- What is done to the row leaves the agenda. -/
theorem st_row (h : AgI.St B w g now last S) (hr : Its B' w v L) (hg : w.grownBy w' v.ownBlock) : AgI.St B w' g now last S := by
  have key : ∀ (k : Nat) (cs : Array Value) (t : TypeId) (fr : Nat × Nat), w.heap[k]? = some (.cells cs t fr) → t ≠ 33 → w'.heap[k]? = some (.cells cs t fr) := by
    intro k cs t fr hk ht
    refine (hg.block k (AgI.lt_of_heap hk) (fun e => ?_)).trans hk
    rcases hr.2 with ⟨rfl, _⟩ | ⟨r, cap, cur, rfl, _, hg2, _⟩
    · simp [Value.ownBlock] at e
    · simp [Value.ownBlock] at e
      subst e
      rw [hg2] at hk
      injection hk with hk
      injection hk with _ hk _
      exact ht hk.symm
  obtain ⟨l, ⟨h0, u, h1, ⟨h2, h3⟩⟩, h4, h5⟩ := h
  refine ⟨l, ⟨h0, u, key _ _ _ _ h1 (by decide), ⟨⟨h2.1, ?_⟩, fun e he => ⟨(h3 e he).1, key _ _ _ _ (h3 e he).2 (by decide)⟩⟩⟩, h4, h5⟩
  rcases h2.2 with ⟨rfl, hz⟩ | ⟨r, cap, cur, rfl, hb, hgg, hrr⟩
  · exact .inl ⟨rfl, hz⟩
  · exact .inr ⟨r, cap, cur, rfl, hb, key _ _ _ _ hgg (by decide), hrr⟩
end

end Go.Proofs.Ytnddiobjojnckaa
