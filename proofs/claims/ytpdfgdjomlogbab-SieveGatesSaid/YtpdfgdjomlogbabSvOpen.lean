/- Package sieve: Open, of streams without meters. -/
import Derived.Test.YtpdfgdjomlogbabSvIn
namespace Go.Proofs.Ytpdfgdjomlogbab
open Go.RowKit Go.Joins

/-- What the sieve has behind Open. -/
def openL (L : List Fl) (i : Int) : List Fl := if 0 ≤ i ∧ i < L.length then L.set i.toNat { L.getD i.toNat default with bl := false } else L
def openE (L : List Fl) (i : Int) : Int := if 0 ≤ i ∧ i < L.length then 0 else 5
set_option maxHeartbeats 1000000 in
theorem open_none {w W : World} {b : Nat} {vv : Value} {L : List Fl} {oth : Int} (h : NS w b vv L oth W) (i : Int) (hi : ¬ (0 ≤ i ∧ i < L.length)) :
    Calls Try.prog 9 #[.pointer (some ⟨b, 0, none⟩), .int .i64 i] W fun e w' => e = .returned (.int .i64 5) ∧ NS w b vv L oth w' ∧ ∀ g, TwoB b g W w' := by
  have HN := Lib.hid h
  have b0 := cell_of_row _ _ 0 _ _ _ h.box
  obtain ⟨p, c, rfl⟩ := row_form h.row
  generalize L.length = n at *
  clear h
  by_cases h0 : i < 0
  · have d1 : decide (i < 0) = true := decide_eq_true h0
    clear hi h0
    go_enter Try.func9, Try.ntmps9
    go_wp2_with fail
    go_ret
    exact ⟨rfl, HN.out, fun g => TwoB.refl _ _ _⟩
  · have d1 : decide (i < 0) = false := decide_eq_false h0
    have d2 : decide ((n : Int) ≤ i) = true := decide_eq_true (by omega)
    clear hi h0
    go_enter Try.func9, Try.ntmps9
    go_wp2_with fail
    go_ret
    exact ⟨rfl, HN.out, fun g => TwoB.refl _ _ _⟩
set_option maxHeartbeats 1000000 in
theorem open_some {w W : World} {b g n cap : Nat} {L : List Fl} {oth : Int} (h : NS w b (.slice (some ⟨g, 0, none⟩) n cap) L oth W) (hn : n = L.length) (hcap : n ≤ cap) {k : Nat} (hk : k < n) (f : Fl) (hf : L.getD k default = f) (hr : f.st.rate = -1) :
    Calls Try.prog 9 #[.pointer (some ⟨b, 0, none⟩), .int .i64 (k : Int)] W fun e w' => e = .returned (.int .i64 0) ∧ NS w b (.slice (some ⟨g, 0, none⟩) n cap) (L.set k { f with bl := false }) oth w' ∧ TwoB b g W w' := by
  have b0 := cell_of_row _ _ 0 _ _ _ h.box
  have a14 := h.at hn hk 14 (by omega)
  have f14 := h.fz hn (k * 21 + 14)
  have HP := Lib.hid (h.put hn hk 14 (by omega) (.bool false) { f with bl := false } (by rw [hf]; rfl))
  have a13 := HP.out.at (by rw [List.length_set]; exact hn) hk 13 (by omega)
  rw [getD_set L k _ (by omega)] at a13
  rw [hf] at a14
  replace a14 : W.cell? ⟨g, k * 21 + 14, none⟩ = some (.bool f.bl) := a14
  replace a13 : (W.setCell ⟨g, k * 21 + 14, none⟩ (.bool false)).cell? ⟨g, k * 21 + 13, none⟩ = some (.int .i64 f.st.rate) := a13
  rw [hr] at a13
  have d1 : decide ((k : Int) < 0) = false := decide_eq_false (by omega)
  have d2 : decide ((n : Int) ≤ (k : Int)) = false := decide_eq_false (by omega)
  clear h hf hr hn
  go_enter Try.func9, Try.ntmps9
  go_wp2_with fail
  go_ret
  exact ⟨rfl, HP.out, (TwoB.refl _ _ _).setg _ _⟩

end Go.Proofs.Ytpdfgdjomlogbab
