/- The reference's calls on any list that is right; what Left and Next tell beside them. -/
import Derived.Test.YtpdfgdjomlogbaaGtRef5
namespace Go.Proofs.Ytpdfgdjomlogbaa
open Go.RowKit Go.Joins

section
variable {b c x : Int} {sl : Value} {ts : List (Int × Int)} {w : World}
theorem rstay_any (G : Nat) (op : Bool) (h : TArg w sl ts) (hg : Good b c ts) (hx : inT x) (hG : G < 8) :
    Calls Try.prog 19 #[LV b c sl, .int .i64 x, .int .i64 (G : Int), .bool op] w fun e w' => e = .returned (.int .i64 (rstayV c ts (gone b c x) G (oBit op))) ∧ Below w.heap.size w w' := by
  obtain ⟨bk, o, cap, rfl, _, hr⟩ := h.at hg.pos
  exact rstay_some b c bk o cap ts x G op w hr hg hx hG h.1
theorem rstate_any (h : TArg w sl ts) (hg : Good b c ts) (hx : inT x) :
    Calls Try.prog 16 #[LV b c sl, .int .i64 x] w fun e w' => e = .returned (.int .i64 (st ts (gone b c x))) ∧ Below w.heap.size w w' := by
  obtain ⟨bk, o, cap, rfl, _, hr⟩ := h.at hg.pos
  exact rstate_some b c bk o cap ts x w hr hg hx
theorem left_none {y : Int} (h : ¬ (Tells b c ts x ∧ isG y)) : leftV b c ts x y = 0 := by unfold leftV; rw [if_neg h]
theorem next_none {y : Int} (h : ¬ (Tells b c ts x ∧ isG y)) : nextV b c ts x y = (0, false) := by unfold nextV; rw [if_neg h]
theorem left_two {G : Nat} (ht : Tells b c ts x) (hG : G < 8) : (leftV b c ts x (G : Int) = 2147483648 ∧ rstayV c ts (gone b c x) G 1 = 2 * c) ∨ (leftV b c ts x (G : Int) = rstayV c ts (gone b c x) G 1 ∧ rstayV c ts (gone b c x) G 1 ≤ c) := by
  have hg := chk_good ht.2
  have e : leftV b c ts x (G : Int) = stayV c ts (gone b c x) G 1 := by unfold leftV; rw [if_pos ⟨ht, ⟨by omega, by omega⟩⟩, Int.toNat_natCast]
  rw [e]
  exact hg.stay_two (gone_bd x hg.c0).1
theorem next_two {G : Nat} (ht : Tells b c ts x) (hG : G < 8) : (nextV b c ts x (G : Int) = (0, false) ∧ rstayV c ts (gone b c x) G 0 = 2 * c) ∨ (nextV b c ts x (G : Int) = (rstayV c ts (gone b c x) G 0, true) ∧ rstayV c ts (gone b c x) G 0 ≤ c) := by
  have hg := chk_good ht.2
  have h := hg.stay_two (gone_bd (b := b) x hg.c0).1 (G := G) (bit := 0)
  have hc := hg.c1
  unfold nextV
  rw [if_pos (show Tells b c ts x ∧ isG (G : Int) from ⟨ht, ⟨by omega, by omega⟩⟩), Int.toNat_natCast]
  rcases h with ⟨h1, h2⟩ | ⟨h1, h2⟩
  · exact .inl ⟨by rw [if_pos h1], h2⟩
  · exact .inr ⟨by rw [h1, if_neg (by omega)], h2⟩
end

end Go.Proofs.Ytpdfgdjomlogbaa
