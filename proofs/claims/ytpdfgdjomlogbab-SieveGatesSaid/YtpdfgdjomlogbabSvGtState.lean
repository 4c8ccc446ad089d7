/- Package gates: State, Left, Next, Turn. -/
import Derived.Test.YtpdfgdjomlogbabSvGtSlot
namespace Go.Proofs.Ytpdfgdjomlogbab
open Go.RowKit Go.Joins

section
variable (b c : Int) (sl : Value) (ts : List (Int × Int)) (x : Int) (w : World)
/-- What State answers. -/
def stateV (b c : Int) (ts : List (Int × Int)) (x : Int) : Int := if Tells b c ts x then st ts (gone b c x) else 0
abbrev BO (b c : Int) (sl : Value) : Obj := .cells #[.int .i64 b, .int .i64 c, sl] 46
set_option maxHeartbeats 1000000 in
theorem state_any (h : TArg w sl ts) : Calls Try.prog 13 #[LV b c sl, .int .i64 x] w fun e w' => e = .returned (.int .i64 (stateV b c ts x)) ∧ Below w.heap.size w w' := by
  have HT := Lib.hid (fun W (k : TArg W sl ts) => tells_any b c sl ts x W k)
  have HA := Lib.hid (h.below (bAl (bRef w) (BO b c sl)))
  have HL0 := Lib.hid (LB.new w b c sl)
  by_cases ht : Tells b c ts x
  · rw [decide_eq_true ht] at HT
    unfold stateV
    rw [if_pos ht]
    have hg := chk_good ht.2
    have hs := hg.slot_lt (gone b c x)
    obtain ⟨bk, o, cap, rfl, hc, hr⟩ := h.at hg.pos
    have HS := Lib.hid (fun W (k : RdT W bk o ts) => slot_some b c bk o cap ts x W k hc hg ht.1)
    have HR := Lib.hid (hr.below (bAl (bRef w) (BO b c (.slice (some ⟨bk, o, none⟩) ts.length cap))))
    unfold st
    obtain ⟨i, hi⟩ : ∃ i, slotI ts (gone b c x) = i := ⟨_, rfl⟩
    rw [hi] at hs HS ⊢
    generalize gone b c x = g at *
    have h64 := hg.len
    obtain ⟨n, hn⟩ : ∃ n, n = ts.length := ⟨_, rfl⟩
    have Hn := Lib.hid hn
    rw [← hn] at hs hc HS HR h64
    rw [← hn] at HT HA HL0 ⊢
    obtain ⟨a, ha⟩ : ∃ a, tA ts i = a := ⟨_, rfl⟩
    have HRd : Hid (∀ W, RdT W bk o ts → W.cell? ⟨bk, o + i * 2, none⟩ = some (.int .i64 a)) := Lib.hid (fun W k => by rw [← ha]; exact (k.2 i (by rw [← Hn.out]; exact hs)).1)
    rw [ha]
    clear ht h hg hr hi ha hn
    go_enter Try.func13, Try.ntmps13
    go_wp2_with (first
      | (go_at_call 23; (with_reducible refine (HT.out _ HA.out).mono ?_); rintro e w1 ⟨rfl, hb⟩; have HL1 := Lib.hid (HL0.out.below hb); obtain ⟨q0, q1, q2⟩ := HL1.out.cells; have HR1 := Lib.hid (HR.out.below hb); have HB1 := Lib.hid (bTr (bAl (bRef w) _) hb); clear hb)
      | (go_at_call 24; (with_reducible refine (HS.out _ HR1.out).mono ?_); rintro e w2 ⟨rfl, hb⟩; have HL2 := Lib.hid (HL1.out.below hb); have HR2 := Lib.hid (HR1.out.below hb); have HB2 := Lib.hid (bTr HB1.out hb); obtain ⟨l0, l1, l2⟩ := HL2.out.cells; have hrd := HRd.out _ HR2.out; clear hb))
    go_ret
    exact ⟨rfl, HB2.out⟩
  · rw [decide_eq_false ht] at HT
    unfold stateV
    rw [if_neg ht]
    clear ht h
    go_enter Try.func13, Try.ntmps13
    go_wp2_with (go_at_call 23; (with_reducible refine (HT.out _ HA.out).mono ?_); rintro e w1 ⟨rfl, hb⟩; have HB1 := Lib.hid (bTr (bAl (bRef w) _) hb); clear hb)
    go_ret
    exact ⟨rfl, HB1.out⟩
end

end Go.Proofs.Ytpdfgdjomlogbab
