/- The reference's Encode. -/
import Derived.Test.YtbpkjljienadiabPtRef5
import Derived.Test.YtbpkjljienadiabPtEncA
namespace Go.Proofs.Ytbpkjljienadiab
open Go.RowKit Go.Joins

theorem pairs_ok (k : Int) : ∀ j, j < (pairsOf k).length → ((pairsOf k).getD j (0, 0)).1 < 15 ∧ ((pairsOf k).getD j (0, 0)).2 ≤ 8 := by
  unfold pairsOf
  split
  · decide
  split
  · decide
  split
  · decide
  · decide
theorem nums_in (m : Mg) (hw : m.Wf) (i : Nat) : In64 ((nums m).getD i 0) := in_getD (by
  intro x hx
  unfold nums at hx
  simp only [List.mem_cons, List.not_mem_nil, or_false] at hx
  obtain ⟨a0, a1, a2, a3, a4, a5, a6, a7, a8, a9, a10, a11, a12, a13, a14, _⟩ := hw
  rcases hx with rfl | rfl | rfl | rfl | rfl | rfl | rfl | rfl | rfl | rfl | rfl | rfl | rfl | rfl | rfl <;> assumption) i
theorem rtext (m : Mg) (hk : m.kind = 0 ∨ m.kind = 2 ∨ m.kind = 3 ∨ m.kind = 8 ∨ m.kind = 10 ∨ m.kind = 11) (hp : m.path.length < 256) :
    m.text = ([16 + m.kind.toNat] ++ (pairsOf m.kind).flatMap fun q => be q.2 ((nums m).getD q.1 0)) ++ if m.kind = 11 then [m.path.length] ++ bes 6 m.path else [] := by
  have e16 : be 1 16 = [16] := by decide
  have e18 : be 1 18 = [18] := by decide
  have e19 : be 1 19 = [19] := by decide
  have e24 : be 1 24 = [24] := by decide
  have e26 : be 1 26 = [26] := by decide
  have e27 : be 1 27 = [27] := by decide
  have el : be 1 (m.path.length : Int) = [m.path.length] := by
    simp [be]; omega
  obtain ⟨kind, dom, seq, src, port, corr, time, tw, tp, rate, one, cls, two, id, steps, path⟩ := m
  dsimp only at *
  rcases hk with rfl | rfl | rfl | rfl | rfl | rfl <;> simp [Mg.text, Mg.head, Mg.tail, pairsOf, nums, bes, e16, e18, e19, e24, e26, e27, el]
/-- The reference's Encode. -/
theorem rencode_any (m : Mg) (v : Value) (w : World) (hw : m.Wf) (hA : LArg w v m.path) : Calls Try.prog 10 #[.agg (MC m v)] w (EncPost w m) := by
  obtain ⟨p, c, hv⟩ := hA.slice
  subst hv
  have HC : ∀ wx, Below w.heap.size w wx → Calls Try.prog 19 #[.agg (MC m (.slice p m.path.length c))] wx fun e w' => e = .returned (.int .i64 (m.chk : Int)) ∧ Below wx.heap.size wx w' :=
    fun wx hb => rcheck_any m _ wx (hA.below hb)
  by_cases h0 : m.chk = 0
  · have hr := Mg.chk_zero.1 h0
    rw [h0] at HC
    refine (renc_main m m.text p m.path.length c w (pairsOf m.kind) (pairs_small _).1 (Lib.hid rfl) (Lib.hid hA) (by have := hr.kind; omega) (by have := hr.kind; omega) (Lib.hid HC) (Lib.hid fun wx => fields_any _ hr.kind wx)
      (Lib.hid (pairs_ok _)) (Lib.hid (nums_in m hw)) (Lib.hid (rtext m hr.kind (by have := hr.few; omega))) (fun _ => hr.few)).mono fun e w' h => .inl ⟨h0, h⟩
  · refine (renc_bad m _ m.chk w (by simp; omega) (Lib.hid HC)).mono fun e w' h => .inr ⟨h0, h⟩

end Go.Proofs.Ytbpkjljienadiab
