/- The reference's calls on any list that is right; what Left and Next tell beside them. -/
import Derived.Test.YtlpijhopllhccaaPoRef5
namespace Go.Proofs.Ytlpijhopllhccaa
open Go.RowKit Go.Joins

section
variable {b c x : Int} {sl : Value} {ts : List (Int × Int)} {w : World}
theorem rstay_any (G : Nat) (op : Bool) (h : TArg w sl ts) (hg : Good b c ts) (hx : inT x) (hG : G < 8) :
    Calls Try.prog 20 #[LV b c sl, .int .i64 x, .int .i64 (G : Int), .bool op] w fun e w' => e = .returned (.int .i64 (rstayV c ts (gone b c x) G (oBit op))) ∧ Below w.heap.size w w' := by
  obtain ⟨bk, o, cap, rfl, _, hr⟩ := h.at hg.pos
  exact rstay_some b c bk o cap ts x G op w hr hg hx hG h.1
theorem left_none {y : Int} (h : ¬ (Tells b c ts x ∧ isG y)) : leftV b c ts x y = 0 := by unfold leftV; rw [if_neg h]
theorem next_none {y : Int} (h : ¬ (Tells b c ts x ∧ isG y)) : nextV b c ts x y = (0, false) := by unfold nextV; rw [if_neg h]
theorem left_two {G : Nat} (ht : Tells b c ts x) (hG : G < 8) : (leftV b c ts x (G : Int) = 2147483648 ∧ rstayV c ts (gone b c x) G 1 = 2 * c) ∨ (leftV b c ts x (G : Int) = rstayV c ts (gone b c x) G 1 ∧ rstayV c ts (gone b c x) G 1 ≤ c) := by
  have hg := chk_good ht.2
  have e : leftV b c ts x (G : Int) = stayV c ts (gone b c x) G 1 := by unfold leftV; rw [if_pos ⟨ht, ⟨by omega, by omega⟩⟩, Int.toNat_natCast]
  rw [e]
  exact hg.stay_two (gone_bd x hg.c0).1
theorem next_two {G : Nat} (ht : Tells b c ts x) (hG : G < 8) : (nextV b c ts x (G : Int) = (0, false) ∧ rstayV c ts (gone b c x) G 0 = 2 * c) ∨ (nextV b c ts x (G : Int) = (rstayV c ts (gone b c x) G 0, true) ∧ rstayV c ts (gone b c x) G 0 ≤ c) := by
  have hg := chk_good ht.2
  have h := hg.stay_two (gone_bd (b := b) x hg.c0).1 (G := G) (bit := 0)
  have hc := hg.c1
  unfold nextV
  rw [if_pos (show Tells b c ts x ∧ isG (G : Int) from ⟨ht, ⟨by omega, by omega⟩⟩), Int.toNat_natCast]
  rcases h with ⟨h1, h2⟩ | ⟨h1, h2⟩
  · exact .inl ⟨by rw [if_pos h1], h2⟩
  · exact .inr ⟨by rw [h1, if_neg (by omega)], h2⟩
end

theorem rturn_any {b c : Int} {sl : Value} {ts : List (Int × Int)} (x : Int) (hz : chkV b c ts = 0) (hx : inT x) :
    Ret 23 #[LV b c sl, .int .i64 x] (.int .i64 (turnV b c ts x).1) := fun w => by
  have hg := chk_good hz
  have ht : Tells b c ts x := ⟨hx, hz⟩
  have HG := Lib.hid (phase_any b c sl x hg.b0 hg.b1 ⟨hg.c0, hg.c1⟩ hx)
  have hgb := gone_bd (b := b) x hg.c0
  have HL0 := Lib.hid (RB.new w b c sl)
  obtain ⟨l0, l1, l2⟩ := HL0.out.cells
  have hx1 := hx.1
  have hx2 := hx.2
  have hc1 := hg.c1
  have hv : (turnV b c ts x).1 = if gone b c x = 0 then x else x + c - gone b c x := by
    unfold turnV
    rw [if_pos ht]
    by_cases h : 0 < gone b c x
    · rw [if_pos h, if_neg (by omega)]; show x + (c - gone b c x) = _; omega
    · rw [if_neg h, if_pos (by omega)]
  rw [hv]
  generalize gone b c x = g at *
  clear hg ht hv
  by_cases h0 : g = 0
  · subst h0
    rw [if_pos rfl]
    clear hgb hx hx1 hx2 hc1
    go_enter Try.func23, Try.ntmps23
    go_wp2_with (go_at_call 44; (with_reducible refine (HG.out.go _).mono ?_); rintro e w1 ⟨rfl, hb⟩; have HL1 := Lib.hid (HL0.out.below hb); have HB1 := Lib.hid (bTr (bAl (bRef w) (.cells #[.int .i64 b, .int .i64 c, sl] 52)) hb); obtain ⟨m0, m1, m2⟩ := HL1.out.cells; clear hb)
    go_ret
    exact ⟨rfl, HB1.out⟩
  · rw [if_neg h0]
    have d1 : (g == 0) = false := by rw [beq_eq_false_iff_ne]; exact h0
    have y1 : wrap64 (x + c) = x + c := by unfold wrap64; omega
    have y2 : wrap64 (x + c - g) = x + c - g := by unfold wrap64; omega
    clear hgb hx hx1 hx2 hc1 h0
    go_enter Try.func23, Try.ntmps23
    go_wp2_with (go_at_call 44; (with_reducible refine (HG.out.go _).mono ?_); rintro e w1 ⟨rfl, hb⟩; have HL1 := Lib.hid (HL0.out.below hb); have HB1 := Lib.hid (bTr (bAl (bRef w) (.cells #[.int .i64 b, .int .i64 c, sl] 52)) hb); obtain ⟨m0, m1, m2⟩ := HL1.out.cells; clear hb)
    go_ret
    exact ⟨by first | rfl | (rw [y2]; rfl), HB1.out⟩


end Go.Proofs.Ytlpijhopllhccaa
