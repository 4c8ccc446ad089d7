/- A gate: At, Change. -/
import Derived.Test.YtllmfkodgalklaaPoGate
import Derived.Test.YtllmfkodgalklaaPoApi
namespace Go.Proofs.Ytllmfkodgalklaa
open Go.RowKit Go.Joins

section
variable {L : Nat} {W : World} {k : Nat} {g : GS}
theorem LB.but {w W : World} {k j : Nat} {b c : Int} {sl : Value} (h : LB w k b c sl) (hb : ButB j w W) (hn : k ≠ j) : LB W k b c sl := (hb.block k (lt_of_heap h) hn).trans h
theorem at_some {w : World} (h : GT L W k g) (hs : g.Sl) (x : Int) (ts : List (Int × Int)) (ht : TArg W (g.turn x).s1 ts) (hne : 0 < ts.length → (g.turn x).s1.ownBlock ≠ some k) (hl : ts.length ≤ 1000) (hw : W = w) :
    Calls Try.prog 32 #[.pointer (some ⟨k, 0, none⟩), .int .i64 x] W fun e w' => ∃ p cp, e = .returned (LV (g.turn x).b1 (g.turn x).c1 (.slice p ts.length cp)) ∧ Mine w w' (.slice p ts.length cp) ts.length ∧ TArg w' (.slice p ts.length cp) ts ∧ GT L w' k (g.turn x) ∧ ButB k w w' := by
  subst hw
  have hlt := lt_of_heap h
  have HK := Lib.hid hlt
  have HLT := Lib.hid (gturn_any (h.below (bAl (bRef W) (.cells #[.int .i64 0, .int .i64 0, .slice none 0 0] 24))) hs x)
  have HSl := hs.turn x
  have HT := Lib.hid ht
  have HNE := Lib.hid hne
  have h2 := heap_alloc_one W (.cells #[.int .i64 0, .int .i64 0, .slice none 0 0] 24)
  have H2 := Lib.hid h2
  have HB0 := Lib.hid (ButB.of_below (b := k) (bAl (bRef W) (.cells #[.int .i64 0, .int .i64 0, .slice none 0 0] 24)))
  generalize g.turn x = g' at *
  have HO := Lib.hid (fun W (h : TArg W g'.s1 ts) => own_any (b := g'.b1) (c := g'.c1) h hl)
  obtain ⟨⟨p1, n1, k1, e1⟩, -⟩ := HSl
  obtain ⟨n, hn⟩ : ∃ n, ts.length = n := ⟨_, rfl⟩
  have HN := Lib.hid hn
  rw [hn] at HO ⊢
  rcases g' with ⟨b1, cc1, s1, b2, cc2, s2, fr, wt⟩
  dsimp only at e1 HO HT HNE ⊢
  subst e1
  clear h hs ht hne hl h2 hn hlt
  go_enter Try.func32, Try.ntmps32
  go_wp2_with (first
    | (go_at_call 51; (with_reducible refine (HLT.out).mono ?_); rintro e w1 ⟨rfl, hg, hb⟩; have HG1 := Lib.hid hg; have HB1 := Lib.hid (HB0.out.trans hb); have H3 := Lib.hid ((hb.block W.heap.size (by simp) (by have := HK.out; omega)).trans H2.out); obtain ⟨c0, c1, c2, -⟩ := hg.cells; have HT1 := Lib.hid (HT.out.but HB1.out HNE.out); have HSZ := Lib.hid hb.size; clear hg hb)
    | (go_at_call 52; (with_reducible refine (HO.out _ HT1.out).mono ?_); rintro e w2 ⟨p2, k2, rfl, hm, ht, hb⟩; have HM := Lib.hid hm; have HT2 := Lib.hid ht; have HG2 := Lib.hid (HG1.out.below hb); have HB2 := Lib.hid (HB1.out.trans (ButB.of_below hb)); have H4 := Lib.hid ((hb.block _ (lt_of_heap H3.out)).trans H3.out); obtain ⟨e0, e1, e2, f0, f1, f2⟩ : _ ∧ _ ∧ _ ∧ _ ∧ _ ∧ _ := ⟨cell_of_row _ _ 0 _ _ _ H4.out, cell_of_row _ _ 1 _ _ _ H4.out, cell_of_row _ _ 2 _ _ _ H4.out, frozen_of_row w2 _ 0 _ _ H4.out, frozen_of_row w2 _ 1 _ _ H4.out, frozen_of_row w2 _ 2 _ _ H4.out⟩; clear hm ht hb))
  have hsz : W.heap.size + 1 ≤ w1.heap.size := by have := HSZ.out; simpa using this
  have off : ∀ (j : Nat) (x0 x1 x2 : Value), j ≠ W.heap.size → (((w2.setCell ⟨W.heap.size, 0, none⟩ x0).setCell ⟨W.heap.size, 1, none⟩ x1).setCell ⟨W.heap.size, 2, none⟩ x2).heap[j]? = w2.heap[j]? := fun j x0 x1 x2 hj => by
    rw [heap_setCell_other _ _ _ _ hj, heap_setCell_other _ _ _ _ hj, heap_setCell_other _ _ _ _ hj]
  refine bodyAt rfl (heap_setCell_same _ _ 2 _ _ _ (heap_setCell_same _ _ 1 _ _ _ (heap_setCell_same _ _ 0 _ _ _ H4.out))) rfl ⟨_, _, rfl, ?_, ?_, ?_, ?_⟩
  · intro h0
    obtain ⟨gg, cap, cur, e, hn, hg, hh, hs⟩ := HM.out h0
    exact ⟨gg, cap, cur, e, hn, by omega, (off _ _ _ _ (by omega)).trans hh, hs⟩
  · refine HT2.out.keep (by simp) fun h0 b e => ?_
    have hb := HM.out.own (by rw [← HN.out]; exact h0) e
    exact off _ _ _ _ (by omega)
  · exact (off _ _ _ _ (by have := HK.out; omega)).trans HG2.out
  · exact ⟨HB2.out.os, HB2.out.tape, HB2.out.output, by simpa using HB2.out.size, fun j hj hn => (off _ _ _ _ (by omega)).trans (HB2.out.block j hj hn)⟩
end

end Go.Proofs.Ytllmfkodgalklaa
