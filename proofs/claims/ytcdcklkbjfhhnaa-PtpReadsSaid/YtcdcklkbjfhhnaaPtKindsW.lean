/- PtpKinds, whatever the message and the kind. -/
import Derived.Test.YtcdcklkbjfhhnaaPtKinds
namespace Go.Proofs.Ytcdcklkbjfhhnaa
open Go.RowKit Go.Joins

theorem Mg.wf_kind {m : Mg} (hw : m.Wf) (k : Int) (hk : In64 k) : ({ m with kind := k } : Mg).Wf := ⟨hk, hw.2⟩
theorem aft_check (m : Mg) (u : Value) (w : World) (x : Nat) (hw : m.Wf) (hu : LArg w u m.path) (hl : m.path.length ≤ 1000000) (hx : m.chk = x) : Aft w 12 #[.agg (MC m u)] (.int .i64 (x : Int)) := fun wx hb => by
  subst hx
  exact check_any m u wx hw (hu.below hb) (by omega)
theorem encL (m : Mg) (u : Value) (w : World) (l : Nat) (hw : m.Wf) (hu : LArg w u m.path) (hl : m.path.length ≤ 1000000) (h0 : m.chk = 0) (he : m.text.length = l) : EncL w #[.agg (MC m u)] l := fun wx hb => by
  subst he
  refine Calls.mono (R := EncPost wx m) (encode_any m u wx hw (hu.below hb) (by omega)) fun e w' hh => ?_
  rcases hh with ⟨_, v, rfl, hown⟩ | ⟨h1, _⟩
  · obtain ⟨g, c, rfl, _⟩ := hown.form
    exact ⟨g, c, rfl, hown.bel⟩
  · exact absurd h0 h1
theorem encE (m : Mg) (u : Value) (w : World) (hw : m.Wf) (hu : LArg w u m.path) (hl : m.path.length ≤ 1000000) : EncE w #[.agg (MC m u)] m.chk := fun wx hb => by
  refine Calls.mono (R := EncPost wx m) (encode_any m u wx hw (hu.below hb) (by omega)) fun e w' hh => ?_
  rcases hh with ⟨h0, v, rfl, hown⟩ | ⟨h1, rfl, hb⟩
  · rw [h0]; exact ⟨v, rfl, hown.bel⟩
  · exact ⟨_, rfl, hb⟩
theorem Mg.text_len (m : Mg) (hr : m.Right) : (m.kind = 0 ∧ m.text.length = 20) ∨ (m.kind = 2 ∧ m.text.length = 20) ∨ (m.kind = 3 ∧ m.text.length = 36) ∨ (m.kind = 8 ∧ m.text.length = 36) ∨ (m.kind = 10 ∧ m.text.length = 36) ∨ (m.kind = 11 ∧ m.text.length = 31 + 6 * m.path.length) := by
  have h := m.head_len
  have ht : m.text.length = 20 + m.tail.length := by unfold Mg.text; rw [List.length_append, h]
  rw [ht]
  unfold Mg.tail
  rcases hr.kind with hk | hk | hk | hk | hk | hk <;> rw [hk] <;> simp [bes_len] <;> omega
theorem kind_chk (m : Mg) : ((m.kind ≠ 0 ∧ m.kind ≠ 2 ∧ m.kind ≠ 3 ∧ m.kind ≠ 8 ∧ m.kind ≠ 10 ∧ m.kind ≠ 11) ∧ m.chk = 23) ∨ ((m.kind = 0 ∨ m.kind = 2 ∨ m.kind = 3 ∨ m.kind = 8 ∨ m.kind = 10 ∨ m.kind = 11) ∧ m.chk ≠ 23) := by
  by_cases h : m.kind = 0 ∨ m.kind = 2 ∨ m.kind = 3 ∨ m.kind = 8 ∨ m.kind = 10 ∨ m.kind = 11
  · refine .inr ⟨h, ?_⟩
    unfold Mg.chk
    rw [if_pos (kindB_iff.2 h)]
    split
    · split
      · omega
      · split <;> omega
    · omega
  · refine .inl ⟨by omega, ?_⟩
    unfold Mg.chk
    rw [if_neg (fun e => h (kindB_iff.1 e))]
theorem time_chk (m : Mg) (ht : m.time ≠ 0) : ({ m with kind := 0 } : Mg).chk = 1 := by
  unfold Mg.chk
  rw [if_pos (kindB_iff.2 (.inl rfl)), if_neg]
  intro e
  simp only [Bool.and_eq_true] at e
  have hb := e.2
  simp [Mg.besB, Mg.ans, ht] at hb

theorem kinds_walk (m : Mg) (u : Value) (k : Int) (w : World) (hw : m.Wf) (hu : LArg w u m.path) (hk1 : -9223372036854775808 ≤ k) (hk2 : k < 9223372036854775808) :
    Calls Try.prog 6 #[MV m u, .int .i64 k] w fun e w' => e = .returned (.bool true) ∧ Below w.heap.size w w' := by
  have hu' := hu
  obtain ⟨p, c, rfl⟩ := hu.slice
  rcases Nat.lt_or_ge 32 m.path.length with hn | hn
  · exact kinds_long m p _ c k w hn
  by_cases h0 : m.chk = 0
  · have hr := Mg.chk_zero.1 h0
    refine kinds_ok m p _ c m.text.length _ k w hn ?_ (Lib.hid (aft_check m _ w 0 hw hu' (by omega) h0)) (Lib.hid (encL m _ w _ hw hu' (by omega) h0 rfl)) (Lib.hid (m.text_len hr)) (Lib.hid fun ht => ?_) (Lib.hid (encE { m with kind := k } _ w (Mg.wf_kind hw k ⟨hk1, hk2⟩) hu' (by show m.path.length ≤ _; omega))) (Lib.hid (kind_chk { m with kind := k }))
    · have := m.text_len hr; omega
    · exact aft_check { m with kind := 0 } _ w 1 (Mg.wf_kind hw 0 in64_0) hu' (by show m.path.length ≤ _; omega) (time_chk m ht)
  · exact kinds_bad m p _ c m.chk k w (by omega) (by rw [bne_iff_ne]; omega) (Lib.hid (aft_check m _ w _ hw hu' (by omega) rfl))

end Go.Proofs.Ytcdcklkbjfhhnaa
