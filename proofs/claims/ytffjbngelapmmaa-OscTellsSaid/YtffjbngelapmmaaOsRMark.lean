/- The reference's clock: its mark. -/
import Derived.Test.YtffjbngelapmmaaOsTell
namespace Go.Proofs.Ytffjbngelapmmaa
open Go.RowKit Go.Joins

def MkSt (w : World) (s g : Int) (va vr : Value) (ts : List (Int × Int)) (W : World) : Prop :=
  W.cell? ⟨w.heap.size, 0, none⟩ = some (.int .i64 s) ∧ W.cell? ⟨w.heap.size, 1, none⟩ = some (.int .i64 g) ∧ W.cell? ⟨w.heap.size, 2, none⟩ = some va ∧ W.cell? ⟨w.heap.size, 3, none⟩ = some vr ∧ RClk W va vr ts ∧ Below w.heap.size w W ∧ w.heap.size < W.heap.size
theorem MkSt.below {w W W' : World} {s g : Int} {va vr : Value} {ts : List (Int × Int)} (h : MkSt w s g va vr ts W) (hb : Below W.heap.size W W') : MkSt w s g va vr ts W' := by
  obtain ⟨h1, h2, h6, h7, h3, h4, h5⟩ := h
  exact ⟨(hb.cell h5).trans h1, (hb.cell h5).trans h2, (hb.cell h5).trans h6, (hb.cell h5).trans h7, h3.below hb, bTr h4 hb, Nat.lt_of_lt_of_le h5 hb.size⟩
set_option maxHeartbeats 4000000 in
theorem rmark_ok {va vr : Value} {s g : Int} {ts : List (Int × Int)} {w : World} (h : RClk w va vr ts) (hg : Good ts) (hs : Start s) (g1 : 1 ≤ g) (g2 : g ≤ 1000) (x : Int) (h0 : 0 ≤ x) (h1 : x ≤ 1099511627776) (y : Int) (hy : mark s g ts x = y) :
    Calls Try.prog 17 #[.agg #[.int .i64 s, .int .i64 g, va, vr], .int .i64 x] w fun e w' => e = .returned (.int .i64 y) ∧ Below w.heap.size w w' := by
  have hin := tell_in hg hs h0 h1
  have HT := fun W : World => fun hr : RClk W va vr ts => rtell_ok (s := s) (g := g) hr hg hs x h0 h1
  have HG := refGrain_ret (s := tell s ts x) (g := g) ⟨by omega, by omega⟩ g1 (by omega)
  obtain ⟨G, hG⟩ : ∃ G, g * 65536 = G := ⟨_, rfl⟩
  have hm0 := Int.emod_nonneg (tell s ts x) (show G ≠ 0 by omega)
  have hm1 := Int.emod_lt_of_pos (tell s ts x) (show 0 < G by omega)
  have hF : Fit (tell s ts x - tell s ts x % (g * 65536)) = .tuple #[.int .i64 y, .int .i64 0] := by
    have hi : In64 (tell s ts x - tell s ts x % G) := ⟨by omega, by omega⟩
    unfold Fit
    rw [hG, fitV_in hi, fitE_in hi, ← hG]
    unfold mark at hy
    rw [hy]
  rw [hF] at HG
  generalize tell s ts x = t at *
  have HH := Lib.hid HT
  have HR := Lib.hid h
  have HB : Below w.heap.size w (w.alloc (.cells #[.int .i64 s, .int .i64 g, va, vr] 34)) := bAl (bRef w) _
  obtain ⟨c0, c1, c2, c3⟩ := box4 w (.int .i64 s) (.int .i64 g) va vr
  have HST := Lib.hid (⟨c0, c1, c2, c3, h.below HB, HB, by simp⟩ : MkSt w s g va vr ts (w.alloc (.cells #[.int .i64 s, .int .i64 g, va, vr] 34)))
  replace HB := Lib.hid HB
  clear h hg hs h0 h1 hy HT hF hin hm0 hm1
  go_enter Try.func17, Try.ntmps17
  go_wp2_with fail
  go_region_held3 (fun W => W.cell? ⟨w.heap.size, 0, none⟩ = some (.int .i64 s) ∧ W.cell? ⟨w.heap.size, 1, none⟩ = some (.int .i64 g) ∧ W.cell? ⟨w.heap.size, 2, none⟩ = some va ∧ W.cell? ⟨w.heap.size, 3, none⟩ = some vr ∧ RClk W va vr ts ∧ Below w.heap.size w W ∧ w.heap.size < W.heap.size)
    (first | exact HST.out | exact MkSt.below HST.out (bRef _).drew | ((try go_split_ands); exact MkSt.below ⟨by assumption, by assumption, by assumption, by assumption, by assumption, by assumption, by assumption⟩ hb1))
    (first
      | (go_at_call 16; go_split_ands; (with_reducible refine (HH.out _ (by assumption)).mono ?_); rintro e w1 ⟨rfl, hb1⟩)
      | (go_at_call 29; (with_reducible refine (HG.go _).mono ?_); rintro e w1 ⟨rfl, hb1⟩))
  go_split_ands
  go_wp2_with fail
  go_ret
  exact ⟨rfl, by assumption⟩

end Go.Proofs.Ytffjbngelapmmaa
