/- Package gates: State, Left, Next, Turn. -/
import Derived.Test.YtllmfkodgalklaaGtStay
namespace Go.Proofs.Ytllmfkodgalklaa
open Go.RowKit Go.Joins

section
variable (b c : Int) (sl : Value) (ts : List (Int × Int)) (x : Int) (w : World)
/-- What State answers. -/
def stateV (b c : Int) (ts : List (Int × Int)) (x : Int) : Int := if Tells b c ts x then st ts (gone b c x) else 0
def leftV (b c : Int) (ts : List (Int × Int)) (x y : Int) : Int := if Tells b c ts x ∧ isG y then stayV c ts (gone b c x) y.toNat 1 else 0
def nextV (b c : Int) (ts : List (Int × Int)) (x y : Int) : Int × Bool :=
  if Tells b c ts x ∧ isG y then (if stayV c ts (gone b c x) y.toNat 0 = 2147483648 then (0, false) else (stayV c ts (gone b c x) y.toNat 0, true)) else (0, false)
def turnV (b c : Int) (ts : List (Int × Int)) (x : Int) : Int × Bool :=
  if Tells b c ts x then (if 0 < gone b c x then (x + (c - gone b c x), true) else (x, true)) else (0, false)
abbrev BO (b c : Int) (sl : Value) : Obj := .cells #[.int .i64 b, .int .i64 c, sl] 24
set_option maxHeartbeats 1000000 in
theorem left_any (y : Int) (h : TArg w sl ts) : Calls Try.prog 26 #[LV b c sl, .int .i64 x, .int .i64 y] w fun e w' => e = .returned (.int .i64 (leftV b c ts x y)) ∧ Below w.heap.size w w' := by
  have HT := Lib.hid (fun W (k : TArg W sl ts) => tells_any b c sl ts x W k)
  have HI := Lib.hid (isGate_any y)
  have HA := Lib.hid (h.below (bAl (bRef w) (BO b c sl)))
  have HL0 := Lib.hid (LB.new w b c sl)
  by_cases ht : Tells b c ts x
  · rw [decide_eq_true ht] at HT
    by_cases hy : isG y
    · rw [decide_eq_true hy] at HI
      unfold leftV
      rw [if_pos ⟨ht, hy⟩]
      have hg := chk_good ht.2
      obtain ⟨bk, o, cap, rfl, hc, hr⟩ := h.at hg.pos
      have e : ((y.toNat : Nat) : Int) = y := by have := hy.1; omega
      have HS := Lib.hid (fun W (k : RdT W bk o ts) => stays_some b c bk o cap ts x y.toNat 1 W k hc hg ht.1 (by have := hy.2; omega))
      have HR := Lib.hid (hr.below (bAl (bRef w) (BO b c (.slice (some ⟨bk, o, none⟩) ts.length cap))))
      rw [e] at HS
      generalize stayV c ts (gone b c x) y.toNat 1 = v at *
      clear ht h hg hr hy e
      go_enter Try.func26, Try.ntmps26
      go_wp2_with (first
        | (go_at_call 48; (with_reducible refine (HT.out _ HA.out).mono ?_); rintro e w1 ⟨rfl, hb⟩; have HL1 := Lib.hid (HL0.out.below hb); obtain ⟨q0, q1, q2⟩ := HL1.out.cells; have HR1 := Lib.hid (HR.out.below hb); have HB1 := Lib.hid (bTr (bAl (bRef w) _) hb); clear hb)
        | (go_at_call 49; (with_reducible refine (HI.out.go _).mono ?_); rintro e w2 ⟨rfl, rfl⟩)
        | (go_at_call 50; (with_reducible refine (HS.out _ HR1.out).mono ?_); rintro e w3 ⟨rfl, hb⟩; have HB2 := Lib.hid (bTr HB1.out hb); clear hb))
      go_ret
      exact ⟨rfl, HB2.out⟩
    · rw [decide_eq_false hy] at HI
      unfold leftV
      rw [if_neg (fun k => hy k.2)]
      clear ht h hy
      go_enter Try.func26, Try.ntmps26
      go_wp2_with (first
        | (go_at_call 48; (with_reducible refine (HT.out _ HA.out).mono ?_); rintro e w1 ⟨rfl, hb⟩; have HB1 := Lib.hid (bTr (bAl (bRef w) _) hb); clear hb)
        | (go_at_call 49; (with_reducible refine (HI.out.go _).mono ?_); rintro e w2 ⟨rfl, rfl⟩))
      go_ret
      exact ⟨rfl, HB1.out⟩
  · rw [decide_eq_false ht] at HT
    unfold leftV
    rw [if_neg (fun k => ht k.1)]
    clear ht h
    go_enter Try.func26, Try.ntmps26
    go_wp2_with (go_at_call 48; (with_reducible refine (HT.out _ HA.out).mono ?_); rintro e w1 ⟨rfl, hb⟩; have HB1 := Lib.hid (bTr (bAl (bRef w) _) hb); clear hb)
    go_ret
    exact ⟨rfl, HB1.out⟩
set_option maxHeartbeats 1000000 in
theorem next_any (y : Int) (h : TArg w sl ts) : Calls Try.prog 27 #[LV b c sl, .int .i64 x, .int .i64 y] w fun e w' => e = .returned (.tuple #[.int .i64 (nextV b c ts x y).1, .bool (nextV b c ts x y).2]) ∧ Below w.heap.size w w' := by
  have HT := Lib.hid (fun W (k : TArg W sl ts) => tells_any b c sl ts x W k)
  have HI := Lib.hid (isGate_any y)
  have HA := Lib.hid (h.below (bAl (bRef w) (BO b c sl)))
  have HL0 := Lib.hid (LB.new w b c sl)
  by_cases ht : Tells b c ts x
  · rw [decide_eq_true ht] at HT
    by_cases hy : isG y
    · rw [decide_eq_true hy] at HI
      unfold nextV
      rw [if_pos ⟨ht, hy⟩]
      have hg := chk_good ht.2
      obtain ⟨bk, o, cap, rfl, hc, hr⟩ := h.at hg.pos
      have e : ((y.toNat : Nat) : Int) = y := by have := hy.1; omega
      have HS := Lib.hid (fun W (k : RdT W bk o ts) => stays_some b c bk o cap ts x y.toNat 0 W k hc hg ht.1 (by have := hy.2; omega))
      have HR := Lib.hid (hr.below (bAl (bRef w) (BO b c (.slice (some ⟨bk, o, none⟩) ts.length cap))))
      rw [e] at HS
      generalize stayV c ts (gone b c x) y.toNat 0 = v at *
      by_cases hv : v = 2147483648
      · rw [if_pos hv]
        have hv2 : (v == 2147483648) = true := by rw [beq_iff_eq]; exact hv
        clear ht h hg hr hy e hv
        go_enter Try.func27, Try.ntmps27
        go_wp2_with (first
          | (go_at_call 48; (with_reducible refine (HT.out _ HA.out).mono ?_); rintro e w1 ⟨rfl, hb⟩; have HL1 := Lib.hid (HL0.out.below hb); obtain ⟨q0, q1, q2⟩ := HL1.out.cells; have HR1 := Lib.hid (HR.out.below hb); have HB1 := Lib.hid (bTr (bAl (bRef w) _) hb); clear hb)
          | (go_at_call 49; (with_reducible refine (HI.out.go _).mono ?_); rintro e w2 ⟨rfl, rfl⟩)
          | (go_at_call 50; (with_reducible refine (HS.out _ HR1.out).mono ?_); rintro e w3 ⟨rfl, hb⟩; have HB2 := Lib.hid (bTr HB1.out hb); clear hb))
        go_ret2
        exact ⟨rfl, HB2.out⟩
      · rw [if_neg hv]
        have hv2 : (v == 2147483648) = false := by rw [beq_eq_false_iff_ne]; exact hv
        clear ht h hg hr hy e hv
        go_enter Try.func27, Try.ntmps27
        go_wp2_with (first
          | (go_at_call 48; (with_reducible refine (HT.out _ HA.out).mono ?_); rintro e w1 ⟨rfl, hb⟩; have HL1 := Lib.hid (HL0.out.below hb); obtain ⟨q0, q1, q2⟩ := HL1.out.cells; have HR1 := Lib.hid (HR.out.below hb); have HB1 := Lib.hid (bTr (bAl (bRef w) _) hb); clear hb)
          | (go_at_call 49; (with_reducible refine (HI.out.go _).mono ?_); rintro e w2 ⟨rfl, rfl⟩)
          | (go_at_call 50; (with_reducible refine (HS.out _ HR1.out).mono ?_); rintro e w3 ⟨rfl, hb⟩; have HB2 := Lib.hid (bTr HB1.out hb); clear hb))
        go_ret2
        exact ⟨rfl, HB2.out⟩
    · rw [decide_eq_false hy] at HI
      unfold nextV
      rw [if_neg (fun k => hy k.2)]
      clear ht h hy
      go_enter Try.func27, Try.ntmps27
      go_wp2_with (first
        | (go_at_call 48; (with_reducible refine (HT.out _ HA.out).mono ?_); rintro e w1 ⟨rfl, hb⟩; have HB1 := Lib.hid (bTr (bAl (bRef w) _) hb); clear hb)
        | (go_at_call 49; (with_reducible refine (HI.out.go _).mono ?_); rintro e w2 ⟨rfl, rfl⟩))
      go_ret2
      exact ⟨rfl, HB1.out⟩
  · rw [decide_eq_false ht] at HT
    unfold nextV
    rw [if_neg (fun k => ht k.1)]
    clear ht h
    go_enter Try.func27, Try.ntmps27
    go_wp2_with (go_at_call 48; (with_reducible refine (HT.out _ HA.out).mono ?_); rintro e w1 ⟨rfl, hb⟩; have HB1 := Lib.hid (bTr (bAl (bRef w) _) hb); clear hb)
    go_ret2
    exact ⟨rfl, HB1.out⟩
set_option maxHeartbeats 1000000 in
theorem turn_any (h : TArg w sl ts) : Calls Try.prog 54 #[LV b c sl, .int .i64 x] w fun e w' => e = .returned (.tuple #[.int .i64 (turnV b c ts x).1, .bool (turnV b c ts x).2]) ∧ Below w.heap.size w w' := by
  have HT := Lib.hid (fun W (k : TArg W sl ts) => tells_any b c sl ts x W k)
  have HA := Lib.hid (h.below (bAl (bRef w) (BO b c sl)))
  have HL0 := Lib.hid (LB.new w b c sl)
  by_cases ht : Tells b c ts x
  · rw [decide_eq_true ht] at HT
    unfold turnV
    rw [if_pos ht]
    have hg := chk_good ht.2
    have HG := Lib.hid (gone_any b c sl x hg.b0 hg.b1 ⟨hg.c0, hg.c1⟩ ht.1)
    have hgb := gone_bd (b := b) x hg.c0
    have hc1 := hg.c1
    have hx1 := ht.1.1
    have hx2 := ht.1.2
    generalize gone b c x = g at *
    have e1 : wrap64 (c - g) = c - g := by unfold wrap64; omega
    have e2 : wrap64 (x + (c - g)) = x + (c - g) := by unfold wrap64; omega
    by_cases hv : 0 < g
    · rw [if_pos hv]
      have hv2 : decide (0 < g) = true := decide_eq_true hv
      clear ht h hg hv hgb hc1 hx1 hx2
      go_enter Try.func54, Try.ntmps54
      go_wp2_with (first
        | (go_at_call 48; (with_reducible refine (HT.out _ HA.out).mono ?_); rintro e w1 ⟨rfl, hb⟩; have HL1 := Lib.hid (HL0.out.below hb); obtain ⟨q0, q1, q2⟩ := HL1.out.cells; have HB1 := Lib.hid (bTr (bAl (bRef w) _) hb); clear hb)
        | (go_at_call 57; (with_reducible refine (HG.out.go _).mono ?_); rintro e w3 ⟨rfl, hb⟩; have HL2 := Lib.hid (HL1.out.below hb); obtain ⟨l0, l1, l2⟩ := HL2.out.cells; have HB2 := Lib.hid (bTr HB1.out hb); clear hb))
      go_ret2
      exact ⟨by show Ending.returned (Value.tuple #[.int .i64 (wrap64 (x + (c - g))), .bool true]) = _; rw [e2], HB2.out⟩
    · rw [if_neg hv]
      have hv2 : decide (0 < g) = false := decide_eq_false hv
      clear ht h hg hv hgb hc1 hx1 hx2
      go_enter Try.func54, Try.ntmps54
      go_wp2_with (first
        | (go_at_call 48; (with_reducible refine (HT.out _ HA.out).mono ?_); rintro e w1 ⟨rfl, hb⟩; have HL1 := Lib.hid (HL0.out.below hb); obtain ⟨q0, q1, q2⟩ := HL1.out.cells; have HB1 := Lib.hid (bTr (bAl (bRef w) _) hb); clear hb)
        | (go_at_call 57; (with_reducible refine (HG.out.go _).mono ?_); rintro e w3 ⟨rfl, hb⟩; have HL2 := Lib.hid (HL1.out.below hb); obtain ⟨l0, l1, l2⟩ := HL2.out.cells; have HB2 := Lib.hid (bTr HB1.out hb); clear hb))
      go_ret2
      exact ⟨rfl, HB2.out⟩
  · rw [decide_eq_false ht] at HT
    unfold turnV
    rw [if_neg ht]
    clear ht h
    go_enter Try.func54, Try.ntmps54
    go_wp2_with (go_at_call 48; (with_reducible refine (HT.out _ HA.out).mono ?_); rintro e w1 ⟨rfl, hb⟩; have HB1 := Lib.hid (bTr (bAl (bRef w) _) hb); clear hb)
    go_ret2
    exact ⟨rfl, HB1.out⟩
end

end Go.Proofs.Ytllmfkodgalklaa
