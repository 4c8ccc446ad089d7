/- PtpForm, whatever the bytes. -/
import Derived.Test.YtbpkjljienadiabPtForm
namespace Go.Proofs.Ytbpkjljienadiab
open Go.RowKit Go.Joins

theorem form_walk (bv : Value) (xs : List Nat) (a y : Int) (w : World) (hx : BArg w bv xs) (_ : -9223372036854775808 ≤ a) (_ : a < 9223372036854775808) (hy : 0 ≤ y) (hy2 : y < 256) :
    Calls Try.prog 5 #[bv, .int .i64 a, .int .u8 y] w fun e w' => e = .returned (.bool true) ∧ Below w.heap.size w w' := by
  have hx' := hx
  obtain ⟨p, c, rfl⟩ := hx.slice
  rcases Nat.lt_or_ge 500 xs.length with hn | hn
  · exact form_long p _ c a y w hn
  obtain ⟨Y, rfl⟩ : ∃ Y : Nat, y = (Y : Int) := ⟨y.toNat, by omega⟩
  by_cases h0 : (dres xs).1 = 0
  · obtain ⟨ht, hc, hwf, hpl, he⟩ := dres_ok hx.1 h0
    have hr := Mg.chk_zero.1 hc
    generalize (dres xs).2 = m at ht hc hwf hpl he hr
    have hl20 : 20 ≤ xs.length := by rw [← ht]; unfold Mg.text; rw [List.length_append, m.head_len]; omega
    have HD := Lib.hid (decTo xs (by omega) m 0 0 he rfl)
    have HD2 := Lib.hid (decTo (xs ++ [Y]) (by simp; omega) Mg.zero 24 24 (by rw [← ht]; exact dres_more hr hwf Y) rfl)
    have HE := Lib.hid fun (W : World) (v : Value) (hv : LArg W v m.path) => (show Calls Try.prog 9 #[.agg (MC m v)] W fun e w' => ∃ v', e = .returned (.tuple #[v', .int .i64 0]) ∧ OwnB W w' v' xs by
      refine Calls.mono (R := EncPost W m) (encode_any m v W hwf hv (by omega)) fun e w' hh => ?_
      rcases hh with ⟨_, v', rfl, hown⟩ | ⟨h1, _⟩
      · rw [ht] at hown; exact ⟨v', rfl, hown⟩
      · exact absurd hc h1)
    rcases hx.2 with ⟨e, _⟩ | ⟨_, b, o, c', e, hcc, _⟩
    · rw [e] at hl20; simp at hl20
    injection e with e1 e2 e3
    subst e1 e3
    rcases Int.lt_or_le a 0 with ha | ha
    · exact form_lo b o c a Y (by omega) xs m w (by omega) (Lib.hid (by omega)) (Lib.hid (by simp; omega)) (Lib.hid hx') HD HD2 HE ha
    rcases Int.lt_or_le a (xs.length : Int) with ha2 | ha2
    · refine form_in b o c a Y (by omega) xs m w (by omega) (Lib.hid (by omega)) (Lib.hid (by simp; omega)) (Lib.hid hx') HD HD2 HE a.toNat (by omega) (by omega) (by omega) (Lib.hid ?_)
      have h20 : (dres (xs.take a.toNat)).1 = 20 := by
        have := dres_cut hr hwf a.toNat (by rw [ht]; omega)
        rw [ht] at this
        exact this
      exact decTo _ (by rw [List.length_take]; omega) Mg.zero 20 20 (by rw [← dres_bad (xs := xs.take a.toNat) (by rw [h20]; decide), ← h20]) rfl
    · exact form_hi b o c a Y (by omega) xs m w (by omega) (Lib.hid (by omega)) (Lib.hid (by simp; omega)) (Lib.hid hx') HD HD2 HE ha ha2
  · exact form_bad p _ c (dres xs).1 a Y xs w (by omega) (Lib.hid (by omega)) (Lib.hid hx') (by rw [bne_iff_ne]; omega) (Lib.hid (decTo xs (by omega) Mg.zero (dres xs).1 _ (by rw [← dres_bad h0]) rfl))

end Go.Proofs.Ytbpkjljienadiab
