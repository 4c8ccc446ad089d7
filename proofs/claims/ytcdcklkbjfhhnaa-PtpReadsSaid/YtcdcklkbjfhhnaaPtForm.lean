/- PtpForm. -/
import Derived.Test.YtcdcklkbjfhhnaaPtCut
import Derived.Test.YtcdcklkbjfhhnaaPtUnlike
namespace Go.Proofs.Ytcdcklkbjfhhnaa
open Go.RowKit Go.Joins

theorem Try.builtR : Try.prog.built 38 [] = some ZC := by kernel_rfl
theorem wpList_buildR {ops : Array Oper} {rest : List Oper} {o : Oper} {a : Act} {w : World} {Q : Exit → Act → World → Prop} (hg : o.guard = none) (ho : o.op = .build 38 #[])
    (h : wpList Try.prog ops Q rest (a.put o.dst (.agg ZC)) w) : wpList Try.prog ops Q (o :: rest) a w := by
  refine wpList_build hg 38 #[] ho ?_ ?_
  · rw [Array.map_empty]
    show (Try.prog.built 38 []).isSome = true
    rw [Try.builtR]; rfl
  · rw [Array.map_empty]
    show wpList Try.prog ops Q rest (a.put o.dst (.agg ((Try.prog.built 38 []).getD #[]))) w
    rw [Try.builtR]; exact h
theorem at_buildR {ops : Array Oper} {rest : List Oper} {d : Option Tmp} {t : TypeId} {s : String} {af : Array Edge} {a : Act} {w : World} {Q : Exit → Act → World → Prop}
    (h : wpList Try.prog ops Q (⟨d, .build 38 #[], t, s, af, none⟩ :: rest) a w) : wpList Try.prog ops Q (⟨d, .build 38 #[], t, s, af, none⟩ :: rest) a w := h
/-- Bytes are decoded so. -/
def DecTo (xs : List Nat) (m : Mg) (err : Int) : Prop := ∀ (W : World) (v : Value), BArg W v xs → Calls Try.prog 14 #[v] W (DecR W m err)
theorem DecTo.go {xs : List Nat} {m : Mg} {err : Int} (h : DecTo xs m err) {W : World} {v : Value} (hv : BArg W v xs) : Calls Try.prog 14 #[v] W (DecR W m err) := h W v hv
theorem decTo (xs : List Nat) (hl : xs.length < 140737488355328) (m : Mg) (x : Nat) (err : Int) (h : dres xs = (x, m)) (he : err = (x : Int)) : DecTo xs m err := fun W v hv => by
  have := decode_any hv hl
  rw [h] at this
  rw [he]; exact this
theorem BArg.cut {w : World} {p : Option Addr} {n c k : Nat} {xs : List Nat} (h : BArg w (.slice p n c) xs) (hk : k < xs.length) : BArg w (.slice p k c) (xs.take k) := by
  obtain ⟨h1, h2⟩ := h
  have hl : (xs.take k).length = k := by rw [List.length_take]; omega
  refine ⟨Crc.bytes_take h1 k, ?_⟩
  rcases h2 with ⟨rfl, _⟩ | ⟨h0, b, o, c', e, hc, hr⟩
  · simp at hk
  · injection e with e1 e2 e3
    subst e1 e2 e3
    rcases Nat.eq_zero_or_pos k with hz | hz
    · subst hz
      exact .inl ⟨rfl, some ⟨b, o, none⟩, c, rfl, fun e => by cases e⟩
    · refine .inr ⟨by rw [hl]; exact hz, b, o, c, by rw [hl], by rw [hl]; omega, hr.take k⟩


theorem plain_mc (m : Mg) (p : Option Addr) (n c : Nat) : Ret 11 #[.agg (MC m (.slice p n c))] (.agg (MC m (.slice p n c))) := plain_ret m p n c
theorem same_mc {v : Value} {w : World} (h : LArg w v Mg.zero.path) : Calls Try.prog 15 #[.agg (MC Mg.zero v), .agg ZC] w fun e w' => e = .returned (.bool true) ∧ Below w.heap.size w w' :=
  same_yes Mg.zero v (.slice none 0 0) w (by simp [Mg.zero]) h (lnil w)

theorem form_long (p : Option Addr) (n c : Nat) (a y : Int) (w : World) (h : 500 < n) : Calls Try.prog 5 #[.slice p n c, .int .i64 a, .int .u8 y] w fun e w' => e = .returned (.bool true) ∧ Below w.heap.size w w' := by
  have HH := head_ret
  go_enter Try.func5, Try.ntmps5
  go_wp2_with (go_at_call 8; (with_reducible refine (HH.go _).mono ?_); rintro e w1 ⟨rfl, hb⟩; have HB := Lib.hid hb; clear hb)
  go_ret
  exact ⟨rfl, HB.out⟩

set_option maxRecDepth 100000 in
set_option maxHeartbeats 1000000 in
theorem form_bad (p : Option Addr) (n c x : Nat) (a y : Int) (xs : List Nat) (w : World) (h : ¬ 500 < n) (hl : Hid (xs.length ≤ 140737488355328)) (hx : Hid (BArg w (.slice p n c) xs)) (hx0 : ((x : Int) != 0) = true) (HD : Hid (DecTo xs Mg.zero (x : Int))) :
    Calls Try.prog 5 #[.slice p n c, .int .i64 a, .int .u8 y] w fun e w' => e = .returned (.bool true) ∧ Below w.heap.size w w' := by
  have HH := head_ret
  have hd1 : decide ((500 : Int) < (n : Int)) = false := decide_eq_false (by omega)
  clear h
  go_enter Try.func5, Try.ntmps5
  go_wp2_with (first
    | ((with_reducible refine at_storeM ?_); refine wpList_storeNM rfl _ _ rfl _ rfl (MC Mg.zero (.slice p2 n2 c2)) _ rfl rfl (MC_one _ _ _ _) rfl rfl ?_)
    | ((with_reducible refine at_loadM ?_); refine wpList_loadM rfl _ rfl w2.heap.size rfl (MC Mg.zero (.slice p2 n2 c2)) _ (heap_alloc_new w2 _) rfl ?_)
    | ((with_reducible refine at_buildR ?_); refine wpList_buildR rfl rfl ?_)
    | (go_at_call 8; (with_reducible refine (HH.go _).mono ?_); rintro e w1 ⟨rfl, hb⟩; have HB := Lib.hid hb; clear hb)
    | (go_at_call 16; (with_reducible refine (copy_any (hx.out.below HB.out) hl.out).mono ?_); rintro e wc ⟨vc, rfl, hown⟩; have HO := Lib.hid hown; replace HB := Lib.hid (bTr HB.out hown.bel); clear hown)
    | (go_at_call 14; (with_reducible refine (HD.out.go HO.out.arg).mono ?_); rintro e w2 ⟨p2, n2, c2, rfl, hb, harg⟩; have HA := Lib.hid harg; replace HB := Lib.hid (bTr HB.out hb); clear hb harg)
    | (go_at_call 11; (with_reducible refine ((plain_mc Mg.zero p2 n2 c2).go _).mono ?_); rintro e w3 ⟨rfl, hb⟩; have HA3 := Lib.hid (HA.out.below (bTr (bAl (bRef w2) _) hb)); have HB3 := Lib.hid (bTr (bAl HB.out _) hb); clear hb)
    | (go_at_call 15; (with_reducible refine (same_mc HA3.out).mono ?_); rintro e w4 ⟨rfl, hb⟩; have HB4 := Lib.hid (bTr HB3.out hb); clear hb))
  go_ret
  exact ⟨rfl, HB4.out⟩

set_option maxRecDepth 100000 in
set_option maxHeartbeats 2000000 in
theorem form_lo (b o c : Nat) (a : Int) (y : Nat) (hy : y < 256) (xs : List Nat) (m : Mg) (w : World) (h : ¬ 500 < xs.length) (hl : Hid (xs.length ≤ 140737488355328)) (hl2 : Hid (xs.length + [y].length ≤ 140737488355328)) (hx : Hid (BArg w (.slice (some ⟨b, o, none⟩) xs.length c) xs))
    (HD : Hid (DecTo xs m 0)) (HD2 : Hid (DecTo (xs ++ [y]) Mg.zero 24)) (HE : Hid (∀ (W : World) (v : Value), LArg W v m.path → Calls Try.prog 9 #[.agg (MC m v)] W fun e w' => ∃ v', e = .returned (.tuple #[v', .int .i64 0]) ∧ OwnB W w' v' xs)) (ha : a < 0) :
    Calls Try.prog 5 #[.slice (some ⟨b, o, none⟩) xs.length c, .int .i64 a, .int .u8 (y : Int)] w fun e w' => e = .returned (.bool true) ∧ Below w.heap.size w w' := by
  have HH := head_ret
  have hd1 : decide ((500 : Int) < (xs.length : Int)) = false := decide_eq_false (by omega)
  clear h
  go_enter Try.func5, Try.ntmps5
  go_wp2_with (first
    | ((with_reducible refine at_storeM ?_); refine wpList_storeNM (w := w2) rfl _ _ rfl _ rfl (MC m (.slice p2 n2 c2)) _ rfl rfl (MC_one _ _ _ _) rfl rfl ?_)
    | ((with_reducible refine at_storeM ?_); refine wpList_storeNM (w := w5) rfl _ _ rfl _ rfl (MC Mg.zero (.slice p5 n5 c5)) _ rfl rfl (MC_one _ _ _ _) rfl rfl ?_)
    | ((with_reducible refine at_storeM ?_); refine wpList_storeNM (w := w6) rfl _ _ rfl _ rfl (MC Mg.zero (.slice p6 n6 c6)) _ rfl rfl (MC_one _ _ _ _) rfl rfl ?_)
    | ((with_reducible refine at_loadM ?_); refine wpList_loadM rfl _ rfl w2.heap.size rfl (MC m (.slice p2 n2 c2)) _ (heap_alloc_new w2 _) rfl ?_)
    | (go_at_call 8; (with_reducible refine (HH.go _).mono ?_); rintro e w1 ⟨rfl, hb⟩; have HB := Lib.hid hb; clear hb)
    | (go_at_call 16; (with_reducible refine (copy_any (hx.out.below HB.out) hl.out).mono ?_); rintro e wc ⟨vc, rfl, hown⟩; have HO := Lib.hid hown; have HBX := HB; (try (have HVX := HV; replace HV := Lib.hid (HV.out.below hown.bel))); replace HB := Lib.hid (bTr HB.out hown.bel); clear hown)
    | (go_at_call 14; (with_reducible refine (HD.out.go HO.out.arg).mono ?_); rintro e w2 ⟨p2, n2, c2, rfl, hb, harg⟩; have HA := Lib.hid (harg.below (bAl (bRef w2) (.cells (MC m (.slice p2 n2 c2)) 28))); replace HB := Lib.hid (bAl (bTr HB.out hb) (.cells (MC m (.slice p2 n2 c2)) 28)); clear hb harg HO HD)
    | (go_at_call 9; (with_reducible refine (HE.out _ _ HA.out).mono ?_); rintro e w4 ⟨v4, rfl, hown⟩; have HV := Lib.hid hown.arg; replace HB := Lib.hid (bTr HB.out hown.bel); clear hown)
    | (at_builtin; refine wpList_app rfl _ _ rfl _ _ vc (.slice (some ⟨wc.heap.size, 0, none⟩) 1 1) xs [y] rfl rfl (HO.out.alloc _) (BArg.one wc y hy _ rfl _) hl2.out ?_; intro v9 w9 hown; have HO9 := Lib.hid hown; replace HB := Lib.hid (bTr HBX.out hown.bel); replace HV := Lib.hid (HVX.out.below hown.bel); clear hown)
    | (go_at_call 14; (with_reducible refine (HD2.out.go HO9.out.arg).mono ?_); rintro e w5 ⟨p5, n5, c5, rfl, hb, harg⟩; replace HV := Lib.hid (HV.out.below (bAl hb (.cells (MC Mg.zero (.slice p5 n5 c5)) 28))); replace HB := Lib.hid (bAl (bTr HB.out hb) (.cells (MC Mg.zero (.slice p5 n5 c5)) 28)); clear hb harg)
    | (go_at_call 13; (with_reducible refine (same_any (hx.out.below HB.out) HV.out true (decide_eq_true rfl)).mono ?_); rintro e w7 ⟨rfl, rfl⟩))
  go_ret
  exact ⟨rfl, HB.out⟩

set_option maxRecDepth 100000 in
set_option maxHeartbeats 2000000 in
theorem form_hi (b o c : Nat) (a : Int) (y : Nat) (hy : y < 256) (xs : List Nat) (m : Mg) (w : World) (h : ¬ 500 < xs.length) (hl : Hid (xs.length ≤ 140737488355328)) (hl2 : Hid (xs.length + [y].length ≤ 140737488355328)) (hx : Hid (BArg w (.slice (some ⟨b, o, none⟩) xs.length c) xs))
    (HD : Hid (DecTo xs m 0)) (HD2 : Hid (DecTo (xs ++ [y]) Mg.zero 24)) (HE : Hid (∀ (W : World) (v : Value), LArg W v m.path → Calls Try.prog 9 #[.agg (MC m v)] W fun e w' => ∃ v', e = .returned (.tuple #[v', .int .i64 0]) ∧ OwnB W w' v' xs)) (ha : 0 ≤ a) (ha2 : (xs.length : Int) ≤ a) :
    Calls Try.prog 5 #[.slice (some ⟨b, o, none⟩) xs.length c, .int .i64 a, .int .u8 (y : Int)] w fun e w' => e = .returned (.bool true) ∧ Below w.heap.size w w' := by
  have HH := head_ret
  have hd1 : decide ((500 : Int) < (xs.length : Int)) = false := decide_eq_false (by omega)
  clear h
  go_enter Try.func5, Try.ntmps5
  go_wp2_with (first
    | ((with_reducible refine at_storeM ?_); refine wpList_storeNM (w := w2) rfl _ _ rfl _ rfl (MC m (.slice p2 n2 c2)) _ rfl rfl (MC_one _ _ _ _) rfl rfl ?_)
    | ((with_reducible refine at_storeM ?_); refine wpList_storeNM (w := w5) rfl _ _ rfl _ rfl (MC Mg.zero (.slice p5 n5 c5)) _ rfl rfl (MC_one _ _ _ _) rfl rfl ?_)
    | ((with_reducible refine at_storeM ?_); refine wpList_storeNM (w := w6) rfl _ _ rfl _ rfl (MC Mg.zero (.slice p6 n6 c6)) _ rfl rfl (MC_one _ _ _ _) rfl rfl ?_)
    | ((with_reducible refine at_loadM ?_); refine wpList_loadM rfl _ rfl w2.heap.size rfl (MC m (.slice p2 n2 c2)) _ (heap_alloc_new w2 _) rfl ?_)
    | (go_at_call 8; (with_reducible refine (HH.go _).mono ?_); rintro e w1 ⟨rfl, hb⟩; have HB := Lib.hid hb; clear hb)
    | (go_at_call 16; (with_reducible refine (copy_any (hx.out.below HB.out) hl.out).mono ?_); rintro e wc ⟨vc, rfl, hown⟩; have HO := Lib.hid hown; have HBX := HB; (try (have HVX := HV; replace HV := Lib.hid (HV.out.below hown.bel))); replace HB := Lib.hid (bTr HB.out hown.bel); clear hown)
    | (go_at_call 14; (with_reducible refine (HD.out.go HO.out.arg).mono ?_); rintro e w2 ⟨p2, n2, c2, rfl, hb, harg⟩; have HA := Lib.hid (harg.below (bAl (bRef w2) (.cells (MC m (.slice p2 n2 c2)) 28))); replace HB := Lib.hid (bAl (bTr HB.out hb) (.cells (MC m (.slice p2 n2 c2)) 28)); clear hb harg HO HD)
    | (go_at_call 9; (with_reducible refine (HE.out _ _ HA.out).mono ?_); rintro e w4 ⟨v4, rfl, hown⟩; have HV := Lib.hid hown.arg; replace HB := Lib.hid (bTr HB.out hown.bel); clear hown)
    | (at_builtin; refine wpList_app rfl _ _ rfl _ _ vc (.slice (some ⟨wc.heap.size, 0, none⟩) 1 1) xs [y] rfl rfl (HO.out.alloc _) (BArg.one wc y hy _ rfl _) hl2.out ?_; intro v9 w9 hown; have HO9 := Lib.hid hown; replace HB := Lib.hid (bTr HBX.out hown.bel); replace HV := Lib.hid (HVX.out.below hown.bel); clear hown)
    | (go_at_call 14; (with_reducible refine (HD2.out.go HO9.out.arg).mono ?_); rintro e w5 ⟨p5, n5, c5, rfl, hb, harg⟩; replace HV := Lib.hid (HV.out.below (bAl hb (.cells (MC Mg.zero (.slice p5 n5 c5)) 28))); replace HB := Lib.hid (bAl (bTr HB.out hb) (.cells (MC Mg.zero (.slice p5 n5 c5)) 28)); clear hb harg)
    | (go_at_call 13; (with_reducible refine (same_any (hx.out.below HB.out) HV.out true (decide_eq_true rfl)).mono ?_); rintro e w7 ⟨rfl, rfl⟩))
  go_ret
  exact ⟨rfl, HB.out⟩

set_option maxRecDepth 100000 in
set_option maxHeartbeats 2000000 in
theorem form_in (b o c : Nat) (a : Int) (y : Nat) (hy : y < 256) (xs : List Nat) (m : Mg) (w : World) (h : ¬ 500 < xs.length) (hl : Hid (xs.length ≤ 140737488355328)) (hl2 : Hid (xs.length + [y].length ≤ 140737488355328)) (hx : Hid (BArg w (.slice (some ⟨b, o, none⟩) xs.length c) xs))
    (HD : Hid (DecTo xs m 0)) (HD2 : Hid (DecTo (xs ++ [y]) Mg.zero 24)) (HE : Hid (∀ (W : World) (v : Value), LArg W v m.path → Calls Try.prog 9 #[.agg (MC m v)] W fun e w' => ∃ v', e = .returned (.tuple #[v', .int .i64 0]) ∧ OwnB W w' v' xs)) (k : Nat) (hk : k < xs.length) (ha : a = (k : Int)) (hkc : k ≤ c) (HD3 : Hid (DecTo (xs.take k) Mg.zero 20)) :
    Calls Try.prog 5 #[.slice (some ⟨b, o, none⟩) xs.length c, .int .i64 a, .int .u8 (y : Int)] w fun e w' => e = .returned (.bool true) ∧ Below w.heap.size w w' := by
  have HH := head_ret
  have hd1 : decide ((500 : Int) < (xs.length : Int)) = false := decide_eq_false (by omega)
  clear h
  subst ha
  go_enter Try.func5, Try.ntmps5
  go_wp2_with (first
    | ((with_reducible refine at_storeM ?_); refine wpList_storeNM (w := w2) rfl _ _ rfl _ rfl (MC m (.slice p2 n2 c2)) _ rfl rfl (MC_one _ _ _ _) rfl rfl ?_)
    | ((with_reducible refine at_storeM ?_); refine wpList_storeNM (w := w5) rfl _ _ rfl _ rfl (MC Mg.zero (.slice p5 n5 c5)) _ rfl rfl (MC_one _ _ _ _) rfl rfl ?_)
    | ((with_reducible refine at_storeM ?_); refine wpList_storeNM (w := w6) rfl _ _ rfl _ rfl (MC Mg.zero (.slice p6 n6 c6)) _ rfl rfl (MC_one _ _ _ _) rfl rfl ?_)
    | ((with_reducible refine at_loadM ?_); refine wpList_loadM rfl _ rfl w2.heap.size rfl (MC m (.slice p2 n2 c2)) _ (heap_alloc_new w2 _) rfl ?_)
    | (go_at_call 8; (with_reducible refine (HH.go _).mono ?_); rintro e w1 ⟨rfl, hb⟩; have HB := Lib.hid hb; clear hb)
    | (go_at_call 16; (with_reducible refine (copy_any (hx.out.below HB.out) hl.out).mono ?_); rintro e wc ⟨vc, rfl, hown⟩; have HO := Lib.hid hown; have HBX := HB; (try (have HVX := HV; replace HV := Lib.hid (HV.out.below hown.bel))); replace HB := Lib.hid (bTr HB.out hown.bel); clear hown)
    | (go_at_call 14; (with_reducible refine (HD.out.go HO.out.arg).mono ?_); rintro e w2 ⟨p2, n2, c2, rfl, hb, harg⟩; have HA := Lib.hid (harg.below (bAl (bRef w2) (.cells (MC m (.slice p2 n2 c2)) 28))); replace HB := Lib.hid (bAl (bTr HB.out hb) (.cells (MC m (.slice p2 n2 c2)) 28)); clear hb harg HO HD)
    | (go_at_call 9; (with_reducible refine (HE.out _ _ HA.out).mono ?_); rintro e w4 ⟨v4, rfl, hown⟩; have HV := Lib.hid hown.arg; replace HB := Lib.hid (bTr HB.out hown.bel); clear hown)
    | (at_builtin; refine wpList_app rfl _ _ rfl _ _ vc (.slice (some ⟨wc.heap.size, 0, none⟩) 1 1) xs [y] rfl rfl (HO.out.alloc _) (BArg.one wc y hy _ rfl _) hl2.out ?_; intro v9 w9 hown; have HO9 := Lib.hid hown; replace HB := Lib.hid (bTr HBX.out hown.bel); replace HV := Lib.hid (HVX.out.below hown.bel); clear hown)
    | (go_at_call 14; (with_reducible refine (HD2.out.go HO9.out.arg).mono ?_); rintro e w5 ⟨p5, n5, c5, rfl, hb, harg⟩; replace HV := Lib.hid (HV.out.below (bAl hb (.cells (MC Mg.zero (.slice p5 n5 c5)) 28))); replace HB := Lib.hid (bAl (bTr HB.out hb) (.cells (MC Mg.zero (.slice p5 n5 c5)) 28)); clear hb harg)
    | (go_at_call 13; (with_reducible refine (same_any (hx.out.below HB.out) HV.out true (decide_eq_true rfl)).mono ?_); rintro e w7 ⟨rfl, rfl⟩)
    | (go_at_call 14; (with_reducible refine (HD3.out.go ((hx.out.below HB.out).cut hk)).mono ?_); rintro e w6 ⟨p6, n6, c6, rfl, hb, harg⟩; replace HB := Lib.hid (bAl (bTr HB.out hb) (.cells (MC Mg.zero (.slice p6 n6 c6)) 28)); clear hb harg))
  go_ret
  exact ⟨rfl, HB.out⟩

end Go.Proofs.Ytcdcklkbjfhhnaa
