/- Package ether: read, whatever the text. -/
import Derived.Test.YtbpkjljienadiaaERead
import Derived.Test.YtbpkjljienadiaaEParse
namespace Go.Proofs.Ytbpkjljienadiaa
open Go.RowKit Go.Joins

theorem bv_six {w : World} {g off : Nat} {xs : List Nat} (hr : Rd w g 0 xs) (h : off + 6 ≤ xs.length) (ys : List Nat) (hy : ys = [xs.getD off 0, xs.getD (off + 1) 0, xs.getD (off + 2) 0, xs.getD (off + 3) 0, xs.getD (off + 4) 0, xs.getD (off + 5) 0]) :
    ∀ k v, (bv ys)[k]? = some v → w.cell? ⟨g, off + k, none⟩ = some v := by
  intro k v hv
  have hk : k < 6 := by
    have := (List.getElem?_eq_some_iff.1 hv).1
    rw [bv_len, hy] at this; exact this
  have hc := (hr (by omega)).2 (off + k) (by omega)
  rw [Nat.zero_add] at hc
  rw [hc, ← hv, bv_at (by rw [hy]; exact hk), hy]
  have : k = 0 ∨ k = 1 ∨ k = 2 ∨ k = 3 ∨ k = 4 ∨ k = 5 := by omega
  rcases this with rfl | rfl | rfl | rfl | rfl | rfl <;> rfl

theorem cut_sub {w w' : World} {g a L : Nat} {v : Value} {xs : List Nat} (hx : Crc.Bytes xs) (hr : Rd w g 0 xs) (h0 : 0 < xs.length) (hb : Below w.heap.size w w') (hL : L = min L (xs.length - a)) (h : CutAt g a L v) : SubB w' g v ((xs.drop a).take L) := by
  obtain ⟨o, cc, rfl, h1, h2⟩ := h
  obtain ⟨hlt, hcell⟩ := hr h0
  have hlen : ((xs.drop a).take L).length = L := by rw [List.length_take, List.length_drop]; omega
  refine ⟨fun x hm => hx x (List.mem_of_mem_drop (List.mem_of_mem_take hm)), Nat.lt_of_lt_of_le hlt hb.size, o, cc, by rw [hlen], by rw [hlen]; exact h1, fun k hk => ?_⟩
  rw [hlen] at hk
  obtain rfl := h2 (by omega)
  rw [hb.cell hlt]
  have := hcell (o + k) (by omega)
  rw [Nat.zero_add] at this
  rw [this, List.getD_eq_getElem?_getD, List.getD_eq_getElem?_getD, List.getElem?_take, if_pos hk, List.getElem?_drop]

/-- The frame that a text tells of, its data a part of the text. -/
def ReadPost (w : World) (g : Nat) (xs : List Nat) (e : Ending) (w' : World) : Prop :=
  ∃ v', e = .returned (FV (Fr.parse xs) v') ∧ Below w.heap.size w w' ∧ SubB w' g v' (Fr.parse xs).data

theorem bne33 {k : Nat} (h : k = 33024) : (((k : Nat) : Int) == 33024) = true := by subst h; rfl
theorem bne33' {k : Nat} (h : ¬ k = 33024) : (((k : Nat) : Int) == 33024) = false := by rw [beq_eq_false_iff_ne]; omega
theorem bne61 {k : Nat} (h : k = 61889) : (((k : Nat) : Int) == 61889) = true := by subst h; rfl
theorem bne61' {k : Nat} (h : ¬ k = 61889) : (((k : Nat) : Int) == 61889) = false := by rw [beq_eq_false_iff_ne]; omega

theorem read_any (m c g : Nat) (xs : List Nat) (w : World) (hx : Crc.Bytes xs) (hr : Rd w g 0 xs) (hl : xs.length = m) (hm60 : 60 ≤ m) (hmc : m ≤ c) (hm : m < 100000) :
    Calls Try.prog 29 #[.slice (some ⟨g, 0, none⟩) m c] w (ReadPost w g xs) := by
  have hg : g < w.heap.size := (hr (by omega)).1
  have HC0 := Lib.hid (bv_six (off := 0) hr (by omega) _ rfl)
  have HC6 := Lib.hid (bv_six (off := 6) hr (by omega) _ rfl)
  have hn : ∀ o, o + 2 ≤ m → Hid (NumAt w g o (n2 xs o)) := fun o ho => Lib.hid (numAt hx hr o (by omega))
  have hb : ∀ o, n2 xs o < 65536 := fun o => n2_lt hx o
  have fin : ∀ (a : Nat) (w' : World) (v' : Value), Fr.at2 xs + 4 = a → Below w.heap.size w w' → CutAt g a (min (n2 xs (Fr.at2 xs + 2)) (m - a)) v' → SubB w' g v' (Fr.parse xs).data := by
    intro a w' v' ha hb' hc
    have := cut_sub hx hr (by omega) hb' (by omega) hc
    have e : (Fr.parse xs).data = (xs.drop a).take (min (n2 xs (Fr.at2 xs + 2)) (m - a)) := by
      show (xs.drop (Fr.at2 xs + 4)).take (n2 xs (Fr.at2 xs + 2)) = _
      rw [ha, List.take_eq_take_iff, List.length_drop]; omega
    rw [e]; exact this
  by_cases h0 : n2 xs 12 = 33024
  · have h1 : Fr.at1 xs = 16 := by unfold Fr.at1; rw [if_pos h0]
    by_cases h2 : n2 xs 16 = 61889
    · have h3 : Fr.at2 xs = 22 := by unfold Fr.at2; rw [h1, if_pos h2]
      refine (read_tt m c g w _ _ _ _ _ _ _ _ _ _ _ _ (n2 xs 12) (n2 xs 14) (n2 xs 16) (n2 xs 20) (n2 xs 22) (n2 xs 24) _ hm60 hmc hm hg HC0 HC6 (hn 12 (by omega)) (hb _) (hn 14 (by omega)) (hb _) (hn 16 (by omega)) (hb _) (hn 20 (by omega)) (hb _) (hn 22 (by omega)) (hb _) (hn 24 (by omega)) (hb _) (bne33 h0) (bne61 h2) (and_4096 _ (hb _)) (and_4095 _ (hb _))).mono ?_
      rintro e w' ⟨v', rfl, hb', hc⟩
      refine ⟨v', ?_, hb', fin 26 w' v' (by rw [h3]) hb' (by rw [h3]; exact hc)⟩
      unfold FV Fr.parse
      simp only [h0, h1, h2, h3, decide_true, if_true, Bool.true_and]
    · have h3 : Fr.at2 xs = 16 := by unfold Fr.at2; rw [h1, if_neg h2]
      refine (read_tf m c g w _ _ _ _ _ _ _ _ _ _ _ _ (n2 xs 12) (n2 xs 14) (n2 xs 16) (n2 xs 18) _ hm60 hmc hm hg HC0 HC6 (hn 12 (by omega)) (hb _) (hn 14 (by omega)) (hb _) (hn 16 (by omega)) (hb _) (hn 18 (by omega)) (hb _) (bne33 h0) (bne61' h2) (and_4096 _ (hb _)) (and_4095 _ (hb _))).mono ?_
      rintro e w' ⟨v', rfl, hb', hc⟩
      refine ⟨v', ?_, hb', fin 20 w' v' (by rw [h3]) hb' (by rw [h3]; exact hc)⟩
      unfold FV Fr.parse
      simp only [h0, h1, h2, h3, decide_true, decide_false, if_true, if_false, Bool.true_and]
  · have h1 : Fr.at1 xs = 12 := by unfold Fr.at1; rw [if_neg h0]
    by_cases h2 : n2 xs 12 = 61889
    · have h3 : Fr.at2 xs = 18 := by unfold Fr.at2; rw [h1, if_pos h2]
      refine (read_ft m c g w _ _ _ _ _ _ _ _ _ _ _ _ (n2 xs 12) (n2 xs 16) (n2 xs 18) (n2 xs 20) hm60 hmc hm hg HC0 HC6 (hn 12 (by omega)) (hb _) (hn 16 (by omega)) (hb _) (hn 18 (by omega)) (hb _) (hn 20 (by omega)) (hb _) (bne33' h0) (bne61 h2)).mono ?_
      rintro e w' ⟨v', rfl, hb', hc⟩
      refine ⟨v', ?_, hb', fin 22 w' v' (by rw [h3]) hb' (by rw [h3]; exact hc)⟩
      unfold FV Fr.parse
      simp [h1, h2, h3]
    · have h3 : Fr.at2 xs = 12 := by unfold Fr.at2; rw [h1, if_neg h2]
      refine (read_ff m c g w _ _ _ _ _ _ _ _ _ _ _ _ (n2 xs 12) (n2 xs 14) hm60 hmc hm hg HC0 HC6 (hn 12 (by omega)) (hb _) (hn 14 (by omega)) (hb _) (bne33' h0) (bne61' h2)).mono ?_
      rintro e w' ⟨v', rfl, hb', hc⟩
      refine ⟨v', ?_, hb', fin 16 w' v' (by rw [h3]) hb' (by rw [h3]; exact hc)⟩
      unfold FV Fr.parse
      simp only [h0, h1, h2, h3, decide_false, if_false, Bool.false_and]

end Go.Proofs.Ytbpkjljienadiaa
