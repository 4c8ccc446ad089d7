/- Package stamp: Middle; the reference's. -/
import Derived.Test.YtglmkjnhkjljpaaLong
import Derived.Test.YtglmkjnhkjljpaaSortL
namespace Go.Proofs.Ytglmkjnhkjljpaa
open Go.RowKit Go.Joins Go.Sort

/-- slices.Sort of what the call owns. -/
theorem sortS {w0 w : World} {g n c : Nat} {zs : List Int} (h : OwnS w0 w (.slice (some ⟨g, 0, none⟩) n c) zs) (hn : zs.length = n) (hl : n ≤ 1000000) :
    Calls Try.prog 35 #[.slice (some ⟨g, 0, none⟩) n c] w fun e w' => e = .returned (.tuple #[]) ∧ OwnS w0 w' (.slice (some ⟨g, 0, none⟩) n c) (Med.srt zs) := by
  subst hn
  rcases h.1.2 with ⟨e, _⟩ | ⟨g', cap, cur, e, hb, hg, hnc, hm, hs, ht⟩
  · exact absurd e h.2.2.2
  injection e with e1 e2 e3
  injection e1 with e1
  injection e1 with e4
  subst e4 e3
  rw [Nat.mul_one] at ht
  have hlt : g < w.heap.size := (Array.getElem?_eq_some_iff.1 hg).1
  have hcon := AnyM.slices_Sort_int Try.sortL g 0 c zs w (holds_of_blockI hg ht) hlt (by omega)
  change Calls Try.prog 35 _ _ _ at hcon
  refine hcon.mono fun e w' hh => ?_
  obtain ⟨h1, k, os, rfl⟩ := hh
  refine ⟨h1, ?_, ?_, fun x hx => h.2.2.1 x ((Med.srt_perm zs).mem_iff.1 hx), h.2.2.2⟩
  · have := ownsRow_sortedI (n := k) (os := os) (ts := Med.srt zs) (Med.srt_len zs) hb hg hnc hm hs
    rw [Med.srt_len]
    exact this
  · exact h.2.1.grown (grownBy_sortedI (n := k) (os := os) _) h.2.1.size (fun j hj => by injection hj with hj; omega)

theorem middle_none (p : Option Addr) (c : Nat) (w : World) :
    Calls Try.prog 22 #[.slice p 0 c] w fun e w' => e = .returned (.tuple #[.int .i64 0, .int .i64 5]) ∧ Below w.heap.size w w' := by
  go_enter Try.func22, Try.ntmps22
  go_wp2_with fail
  go_ret2
  exact ⟨rfl, bRef w⟩

theorem cloneS_at {p : Addr} {n c : Nat} {xs : List Int} {w : World} (h : LArg w (.slice (some p) n c) xs) (hl : xs.length ≤ 1000000) (hn : xs.length = n) :
    Calls Try.prog 34 #[.slice (some p) n c] w fun e w' => ∃ g c', e = .returned (.slice (some ⟨g, 0, none⟩) n c') ∧ n ≤ c' ∧ OwnS w w' (.slice (some ⟨g, 0, none⟩) n c') xs := by
  refine (cloneS h hl).mono fun e w' hh => ?_
  obtain ⟨v', e1, h1⟩ := hh
  obtain ⟨g, c', rfl, hc, _, _⟩ := h1.form
  rw [hn] at h1 e1 hc
  exact ⟨g, c', e1, hc, h1⟩

theorem middle_some (p : Addr) (m c : Nat) (xs : List Int) (w : World) (h : LArg w (.slice (some p) (m + 1) c) xs) (hn : xs.length = m + 1) (hl : m + 1 ≤ 1000000) :
    Calls Try.prog 22 #[.slice (some p) (m + 1) c] w fun e w' => e = .returned (.tuple #[.int .i64 (Med.med xs), .int .i64 0]) ∧ Below w.heap.size w w' := by
  have H := Lib.hid h
  have HN := Lib.hid hn
  have HL := Lib.hid (show xs.length ≤ 1000000 by omega)
  have HL2 := Lib.hid hl
  have hmed : (Med.srt xs).getD (m / 2) 0 = Med.med xs := by
    unfold Med.med Med.mid
    rw [hn]; rfl
  have HM := Lib.hid hmed
  clear h hn hmed
  go_enter Try.func22, Try.ntmps22
  go_wp2_with (first
    | (go_at_call 34; (with_reducible refine (cloneS_at H.out HL.out HN.out).mono ?_); rintro e w1 ⟨g, c1, rfl, hc1, hown⟩; have HO := Lib.hid hown; clear hown)
    | (go_at_call 35; (with_reducible refine (sortS HO.out HN.out HL2.out).mono ?_); rintro e w2 ⟨rfl, hown⟩; replace HO := Lib.hid hown; have hcell := hown.cell (k := m / 2) (by rw [Med.srt_len, HN.out]; omega); rw [HM.out] at hcell; clear hown))
  go_ret2
  exact ⟨rfl, HO.out.bel⟩

theorem middle_any {v : Value} {xs : List Int} {w : World} (h : LArg w v xs) (hl : xs.length ≤ 1000000) (x y : Int) (hx : (if xs = [] then 0 else Med.med xs) = x) (hy : (if xs = [] then 5 else 0) = y) :
    Calls Try.prog 22 #[v] w fun e w' => e = .returned (.tuple #[.int .i64 x, .int .i64 y]) ∧ Below w.heap.size w w' := by
  subst hx hy
  have h' := h
  rcases h'.2 with ⟨rfl, p, c, rfl, _⟩ | ⟨h0, b, o, c, rfl, hc, hr⟩
  · exact middle_none p c w
  · have hne : ¬ xs = [] := fun e => by rw [e] at h0; simp at h0
    rw [if_neg hne, if_neg hne]
    have e1 : xs.length - 1 + 1 = xs.length := by omega
    have := middle_some ⟨b, o, none⟩ (xs.length - 1) c xs w (by rw [e1]; exact h) e1.symm (by omega)
    rw [e1] at this
    exact this

end Go.Proofs.Ytglmkjnhkjljpaa
