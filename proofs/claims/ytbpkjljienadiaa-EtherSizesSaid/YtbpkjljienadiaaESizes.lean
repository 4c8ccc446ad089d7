/- EtherSizes: a frame with more data is no shorter; what a tag and a number cost. -/
import Derived.Test.YtbpkjljienadiaaRegs
namespace Go.Proofs.Ytbpkjljienadiaa
open Go.RowKit Go.Joins

/-- Tagged; of several. -/
def Fr.tagged (f : Fr) : Fr := { f with tg := true }
def Fr.many (f : Fr) : Fr := { f with mn := true }
theorem Boxed.put12 {W : World} {g : Nat} {f : Fr} {v : Value} (h : Boxed W g f v) : Boxed (W.setCell ⟨g, 12, none⟩ (.bool true)) g f.tagged v :=
  heap_setCell_same W g 12 (FC f v) 26 (.bool true) h
theorem Boxed.put16 {W : World} {g : Nat} {f : Fr} {v : Value} (h : Boxed W g f v) : Boxed (W.setCell ⟨g, 16, none⟩ (.bool true)) g f.many v :=
  heap_setCell_same W g 16 (FC f v) 26 (.bool true) h
theorem box_two (w : World) (o : Obj) (f : Fr) (v : Value) : Boxed ((w.alloc o).alloc (.cells (FC f v) 26)) (w.heap.size + 1) f v := by
  have h := heap_alloc_new (w.alloc o) (.cells (FC f v) 26)
  have e : (w.alloc o).heap.size = w.heap.size + 1 := by simp
  rw [e] at h
  exact h
theorem wpList_storeNg {ops : Array Oper} {rest : List Oper} {o : Oper} {a : Act} {w : World} {Q : Exit → Act → World → Prop} (hgd : o.guard = none) (x y : Operand) (ho : o.op = .store 26 x y) (g : Nat) (hg : g = w.heap.size)
    (cells old : Array Value) (hx : a.eval x = .pointer (some ⟨g, 0, none⟩)) (hy : a.eval y = .agg cells) (h1 : cells.all (·.oneCell') = true) (hs : cells.size = 20) (hold : old.size = 20)
    (h : wpList Try.prog ops Q rest (a.put o.dst undef) (w.alloc (.cells cells 26))) : wpList Try.prog ops Q (o :: rest) a (w.alloc (.cells old 26)) := by
  subst hg; exact wpList_storeN hgd x y ho cells old hx hy h1 hs hold h
def Two (w : World) (g h : Nat) (f f' : Fr) (u v : Value) (W : World) : Prop := Boxed W g f u ∧ Boxed W h f' v ∧ Below w.heap.size w W
def Four (w : World) (g h i j : Nat) (f f' t m : Fr) (u v : Value) (W : World) : Prop := Boxed W g f u ∧ Boxed W h f' v ∧ Boxed W i t u ∧ Boxed W j m u ∧ Below w.heap.size w W
section
variable {w W W' : World} {g h i j : Nat} {f f' t m : Fr} {u v : Value}
theorem Two.call (k : Two w g h f f' u v W) (hb : Below W.heap.size W W') : Two w g h f f' u v W' := ⟨k.1.below hb, k.2.1.below hb, bTr k.2.2 hb⟩
theorem Two.drew (k : Two w g h f f' u v W) : Two w g h f f' u v W.drew := ⟨k.1, k.2.1, bDr1 k.2.2⟩
theorem Four.call (k : Four w g h i j f f' t m u v W) (hb : Below W.heap.size W W') : Four w g h i j f f' t m u v W' := ⟨k.1.below hb, k.2.1.below hb, k.2.2.1.below hb, k.2.2.2.1.below hb, bTr k.2.2.2.2 hb⟩
theorem Four.drew (k : Four w g h i j f f' t m u v W) : Four w g h i j f f' t m u v W.drew := ⟨k.1, k.2.1, k.2.2.1, k.2.2.2.1, bDr1 k.2.2.2.2⟩
end

set_option maxHeartbeats 4000000 in
theorem sizes_short (f : Fr) (p q : Option Addr) (n c m d : Nat) (xs : List Nat) (w : World) (hn : n ≤ 1000) (hm : m ≤ 400)
    (hu : Hid (BArg w (.slice p n c) f.data)) (hx : Hid (BArg w (.slice q m d) xs)) (hl : Hid (f.data.length + xs.length ≤ 140737488355328)) (hl2 : Hid (f.data.length ≤ 140737488355328))
    (HK : Hid (Ret 15 #[.agg (FC f (.slice p n c))] (.int .i64 0))) (s s' : Int)
    (HS : Hid (Ret 18 #[.agg (FC f (.slice p n c))] (.int .i64 s)))
    (HS' : Hid (∀ p' n' c', n' = f.data.length + xs.length → Ret 18 #[.agg (FC (f.with (f.data ++ xs)) (.slice p' n' c'))] (.int .i64 s'))) (hs : s ≤ s') (hs64 : 64 ≤ s) (hsh : n < 50 ∨ (50 ≤ n ∧ f.tg = true) ∨ (50 ≤ n ∧ f.tg = false ∧ f.mn = true)) :
    Calls Try.prog 8 #[FV f (.slice p n c), .slice q m d] w fun e w' => e = .returned (.bool true) ∧ Below w.heap.size w w' := by
  have HSH := Lib.hid hsh
  clear hsh
  have HH := head_ret
  have HB0 : Hid (Boxed (w.alloc (.cells (FC f (.slice p n c)) 26)) w.heap.size f (.slice p n c)) := Lib.hid (heap_alloc_new w _)
  have hd1 : decide ((1000 : Int) < (n : Int)) = false := decide_eq_false (by omega)
  have hd2 : decide ((400 : Int) < (m : Int)) = false := decide_eq_false (by omega)
  unfold FC at HB0
  unfold FV
  go_enter Try.func8, Try.ntmps8
  go_wp2_with (first
    | ((with_reducible refine at_loadF ?_); refine wpList_loadF rfl _ rfl w.heap.size rfl _ _ HX.out.eq rfl ?_)
    | ((with_reducible refine at_loadG ?_); refine wpList_loadG rfl _ rfl w.heap.size rfl _ _ HX.out.eq rfl ?_)
    | ((with_reducible refine at_storeF ?_); refine wpList_storeN rfl _ _ rfl (FC f (.slice p n c)) _ rfl rfl (FC_one f p n c) rfl rfl ?_; have HG : Hid (Boxed (w2.alloc (.cells (FC f (.slice p n c)) 26)) w2.heap.size f (.slice p n c)) := Lib.hid (heap_alloc_new w2 _); have HX2 := Lib.hid (HX.out.below (bAl (bRef w2) (.cells (FC f (.slice p n c)) 26))); have c19' := HX2.out.c19)
    | (go_at_call 9; (with_reducible refine (HH.go _).mono ?_); rintro e w1 ⟨rfl, hb⟩; have HX := Lib.hid (HB0.out.below hb); have c19 := HX.out.c19; have HB := Lib.hid (bTr (bAl (bRef w) _) hb); clear hb)
    | (go_at_call 15; (with_reducible refine (HK.out.go _).mono ?_); rintro e w2 ⟨rfl, hb⟩; replace HX := Lib.hid (HX.out.below hb); replace HB := Lib.hid (bTr HB.out hb); clear hb)
    | (go_at_call 10; (with_reducible refine (copy_any (hu.out.below (bAl HB.out _)) hl2.out).mono ?_); rintro e w3 ⟨v3, rfl, hown⟩; have HO := Lib.hid hown; clear hown)
    | (at_builtin; refine wpList_appo rfl _ _ rfl _ _ v3 (.slice q m d) f.data xs rfl rfl HO.out (hx.out.below (bTr (bAl HB.out _) HO.out.bel)) hl.out ?_; intro v4 w4 hown hoth; obtain ⟨g4, c4, rfl, _, _, _⟩ := hown.form; obtain ⟨n4, hn4⟩ : ∃ n4, n4 = (f.data ++ xs).length := ⟨_, rfl⟩; rw [← hn4] at hown ⊢; have HN4 := Lib.hid (hn4.trans List.length_append); clear hn4; have HO4 := Lib.hid hown; have HG4 := Lib.hid ((HG.out.below HO.out.bel).oth hoth); have HX4 := Lib.hid ((HX2.out.below HO.out.bel).oth hoth); have c19g := HG4.out.c19; have frg := HG4.out.fr 19; clear hown hoth c19 c19'))
  have hlt : w.heap.size < w2.heap.size := HX.out.lt
  have H0 : Two w w.heap.size w2.heap.size f (f.with (f.data ++ xs)) (.slice p n c) (.slice (some ⟨g4, 0, none⟩) n4 c4) (w4.setCell ⟨w2.heap.size, 19, none⟩ (.slice (some ⟨g4, 0, none⟩) n4 c4)) :=
    ⟨HX4.out.other (by omega), HG4.out.put19 _ _, (bTr (bAl HB.out (.cells (FC f (.slice p n c)) 26)) HO4.out.bel).setCell (by show _ ≤ w2.heap.size; omega) _⟩
  have HS2 := Lib.hid (HS'.out (some ⟨g4, 0, none⟩) n4 c4 HN4.out)
  clear HX4 HG4 HX2 HG HO HO4 HB HX HK HB0 HH HS' HN4 hd1 hd2 c19g frg
  have Hlt := Lib.hid hlt
  clear hlt
  have hd3 : decide (s' < s) = false := decide_eq_false (by omega)
  have hd4 : decide (s < 64) = false := decide_eq_false (by omega)
  obtain ⟨f', hf'⟩ : ∃ x, x = f.with (f.data ++ xs) := ⟨_, rfl⟩
  rw [← hf'] at H0 HS2
  clear hf'
  have HC1 : ∀ W, Two w w.heap.size w2.heap.size f f' (.slice p n c) (.slice (some ⟨g4, 0, none⟩) n4 c4) W → Calls Try.prog 18 #[.agg (FC f (.slice p n c))] W fun e W' => e = .returned (.int .i64 s) ∧ Two w w.heap.size w2.heap.size f f' (.slice p n c) (.slice (some ⟨g4, 0, none⟩) n4 c4) W' :=
    fun W k => (HS.out.go W).mono fun e W' hh => ⟨hh.1, k.call hh.2⟩
  have HC2 : ∀ W, Two w w.heap.size w2.heap.size f f' (.slice p n c) (.slice (some ⟨g4, 0, none⟩) n4 c4) W → Calls Try.prog 18 #[.agg (FC f' (.slice (some ⟨g4, 0, none⟩) n4 c4))] W fun e W' => e = .returned (.int .i64 s') ∧ Two w w.heap.size w2.heap.size f f' (.slice p n c) (.slice (some ⟨g4, 0, none⟩) n4 c4) W' :=
    fun W k => (HS2.out.go W).mono fun e W' hh => ⟨hh.1, k.call hh.2⟩
  refine wp_region_held_drew (S := Two w w.heap.size w2.heap.size f f' (.slice p n c) (.slice (some ⟨g4, 0, none⟩) n4 c4)) (by kernel_rfl) H0.drew (fun hT => ?_)
  generalize World.drew _ = wd at hT ⊢
  refine hTake (i := 0) (k := 31) rfl rfl (by kernel_rfl) (by kernel_rfl) (by kernel_rfl) (fun _ _ _ h => h) (yieldsIf_loadF (by rfl) _ rfl w2.heap.size rfl f' (.slice (some ⟨g4, 0, none⟩) n4 c4) (fun _ k => k.2.1)) hT ?_
  simp only [List.setIfInBounds_toArray, List.set_cons_zero, List.set_cons_succ]
  refine hTake (i := 2) (k := 33) rfl rfl (by kernel_rfl) (by kernel_rfl) (by kernel_rfl) (fun _ _ _ h => h) (yieldsIf_loadF (by rfl) _ rfl w.heap.size rfl f (.slice p n c) (fun _ k => k.1)) hT ?_
  simp only [List.setIfInBounds_toArray, List.set_cons_zero, List.set_cons_succ]
  refine hCall (i := 1) (k := 32) (by kernel_rfl) rfl rfl (by rfl) 18 #[.agg (FC f' (.slice (some ⟨g4, 0, none⟩) n4 c4))] (by intro W; go_simp) (.int .i64 s') HC2 hT (fun wa hTa => ?_)
  simp only [List.setIfInBounds_toArray, List.set_cons_zero, List.set_cons_succ]
  refine hCall (i := 3) (k := 34) (by kernel_rfl) rfl rfl (by rfl) 18 #[.agg (FC f (.slice p n c))] (by intro W; go_simp) (.int .i64 s) HC1 hTa (fun wb hTb => ?_)
  simp only [List.setIfInBounds_toArray, List.set_cons_zero, List.set_cons_succ]
  refine hTake (i := 4) (k := 35) (v := .bool false) rfl rfl (by kernel_rfl) (by kernel_rfl) (by kernel_rfl) (fun _ _ _ h => h) (yieldsIf_val (by rfl) (by intro W; go_simp)) hTb ?_
  simp only [List.setIfInBounds_toArray, List.set_cons_zero, List.set_cons_succ]
  refine hTake (i := 5) (k := 36) (v := .bool false) rfl rfl (by kernel_rfl) (by kernel_rfl) (by kernel_rfl) (fun _ _ _ h => h) (yieldsIf_val (by rfl) (by intro W; go_simp)) hTb ?_
  simp only [List.setIfInBounds_toArray, List.set_cons_zero, List.set_cons_succ]
  refine hTake (i := 6) (k := 37) rfl rfl (by kernel_rfl) (by kernel_rfl) (by kernel_rfl) (fun _ _ _ h => h) (yieldsIf_loadF (by rfl) _ rfl w.heap.size rfl f (.slice p n c) (fun _ k => k.1)) hTb ?_
  simp only [List.setIfInBounds_toArray, List.set_cons_zero, List.set_cons_succ]
  refine hCall (i := 7) (k := 38) (by kernel_rfl) rfl rfl (by rfl) 18 #[.agg (FC f (.slice p n c))] (by intro W; go_simp) (.int .i64 s) HC1 hTb (fun wc hTc => ?_)
  simp only [List.setIfInBounds_toArray, List.set_cons_zero, List.set_cons_succ]
  refine hTake (i := 8) (k := 39) (v := .bool false) rfl rfl (by kernel_rfl) (by kernel_rfl) (by kernel_rfl) (fun _ _ _ h => h) (yieldsIf_val (by rfl) (by intro W; go_simp)) hTc ?_
  simp only [List.setIfInBounds_toArray, List.set_cons_zero, List.set_cons_succ]
  refine hTake (i := 9) (k := 40) (v := .bool false) rfl rfl (by kernel_rfl) (by kernel_rfl) (by kernel_rfl) (fun _ _ _ h => h) (yieldsIf_val (by rfl) (by intro W; go_simp)) hTc ?_
  simp only [List.setIfInBounds_toArray, List.set_cons_zero, List.set_cons_succ]
  refine wpAnyH_done (by kernel_rfl) ?_ _
  have HT := Lib.hid hTc
  clear HC1 HC2 H0 hT hTa hTb hTc hd3 hd4
  have c19 := HT.out.1.c19
  have c12 := HT.out.1.c12
  have c16 := HT.out.1.c16
  rcases HSH.out with h5 | ⟨h5, ht⟩ | ⟨h5, ht, hm2⟩
  · go_wp2_with fail
    go_ret
    exact ⟨rfl, HT.out.2.2⟩
  · rw [ht] at c12
    go_wp2_with fail
    go_ret
    exact ⟨rfl, HT.out.2.2⟩
  · rw [ht] at c12
    rw [hm2] at c16
    go_wp2_with fail
    go_ret
    exact ⟨rfl, HT.out.2.2⟩

set_option maxHeartbeats 4000000 in
theorem sizes_plain (f : Fr) (p q : Option Addr) (n c m d : Nat) (xs : List Nat) (w : World) (hn : n ≤ 1000) (hm : m ≤ 400)
    (hu : Hid (BArg w (.slice p n c) f.data)) (hx : Hid (BArg w (.slice q m d) xs)) (hl : Hid (f.data.length + xs.length ≤ 140737488355328)) (hl2 : Hid (f.data.length ≤ 140737488355328))
    (HK : Hid (Ret 15 #[.agg (FC f (.slice p n c))] (.int .i64 0))) (s s' : Int)
    (HS : Hid (Ret 18 #[.agg (FC f (.slice p n c))] (.int .i64 s)))
    (HS' : Hid (∀ p' n' c', n' = f.data.length + xs.length → Ret 18 #[.agg (FC (f.with (f.data ++ xs)) (.slice p' n' c'))] (.int .i64 s'))) (hs : s ≤ s') (hs64 : 64 ≤ s) (h50 : 50 ≤ n) (htg : Hid (f.tg = false)) (hmn : Hid (f.mn = false)) (hsm : Hid (s' = s + (m : Int))) (hsb : s < 5000)
    (HST : Hid (Ret 18 #[.agg (FC f.tagged (.slice p n c))] (.int .i64 (s + 4)))) (HSN : Hid (Ret 18 #[.agg (FC f.many (.slice p n c))] (.int .i64 (s + 6)))) :
    Calls Try.prog 8 #[FV f (.slice p n c), .slice q m d] w fun e w' => e = .returned (.bool true) ∧ Below w.heap.size w w' := by
  have HH := head_ret
  have HB0 : Hid (Boxed (w.alloc (.cells (FC f (.slice p n c)) 26)) w.heap.size f (.slice p n c)) := Lib.hid (heap_alloc_new w _)
  have hd1 : decide ((1000 : Int) < (n : Int)) = false := decide_eq_false (by omega)
  have hd2 : decide ((400 : Int) < (m : Int)) = false := decide_eq_false (by omega)
  unfold FC at HB0
  unfold FV
  go_enter Try.func8, Try.ntmps8
  go_wp2_with (first
    | ((with_reducible refine at_loadF ?_); refine wpList_loadF rfl _ rfl w.heap.size rfl _ _ HX.out.eq rfl ?_)
    | ((with_reducible refine at_loadG ?_); refine wpList_loadG rfl _ rfl w.heap.size rfl _ _ HX.out.eq rfl ?_)
    | ((with_reducible refine at_storeF ?_); refine wpList_storeN rfl _ _ rfl (FC f (.slice p n c)) _ rfl rfl (FC_one f p n c) rfl rfl ?_; have HG : Hid (Boxed (w2.alloc (.cells (FC f (.slice p n c)) 26)) w2.heap.size f (.slice p n c)) := Lib.hid (heap_alloc_new w2 _); have HX2 := Lib.hid (HX.out.below (bAl (bRef w2) (.cells (FC f (.slice p n c)) 26))); have c19' := HX2.out.c19)
    | (go_at_call 9; (with_reducible refine (HH.go _).mono ?_); rintro e w1 ⟨rfl, hb⟩; have HX := Lib.hid (HB0.out.below hb); have c19 := HX.out.c19; have HB := Lib.hid (bTr (bAl (bRef w) _) hb); clear hb)
    | (go_at_call 15; (with_reducible refine (HK.out.go _).mono ?_); rintro e w2 ⟨rfl, hb⟩; replace HX := Lib.hid (HX.out.below hb); replace HB := Lib.hid (bTr HB.out hb); clear hb)
    | (go_at_call 10; (with_reducible refine (copy_any (hu.out.below (bAl HB.out _)) hl2.out).mono ?_); rintro e w3 ⟨v3, rfl, hown⟩; have HO := Lib.hid hown; clear hown)
    | (at_builtin; refine wpList_appo rfl _ _ rfl _ _ v3 (.slice q m d) f.data xs rfl rfl HO.out (hx.out.below (bTr (bAl HB.out _) HO.out.bel)) hl.out ?_; intro v4 w4 hown hoth; obtain ⟨g4, c4, rfl, _, _, _⟩ := hown.form; obtain ⟨n4, hn4⟩ : ∃ n4, n4 = (f.data ++ xs).length := ⟨_, rfl⟩; rw [← hn4] at hown ⊢; have HN4 := Lib.hid (hn4.trans List.length_append); clear hn4; have HO4 := Lib.hid hown; have HG4 := Lib.hid ((HG.out.below HO.out.bel).oth hoth); have HX4 := Lib.hid ((HX2.out.below HO.out.bel).oth hoth); have c19g := HG4.out.c19; have frg := HG4.out.fr 19; clear hown hoth c19 c19'))
  have hlt : w.heap.size < w2.heap.size := HX.out.lt
  have H0 : Two w w.heap.size w2.heap.size f (f.with (f.data ++ xs)) (.slice p n c) (.slice (some ⟨g4, 0, none⟩) n4 c4) (w4.setCell ⟨w2.heap.size, 19, none⟩ (.slice (some ⟨g4, 0, none⟩) n4 c4)) :=
    ⟨HX4.out.other (by omega), HG4.out.put19 _ _, (bTr (bAl HB.out (.cells (FC f (.slice p n c)) 26)) HO4.out.bel).setCell (by show _ ≤ w2.heap.size; omega) _⟩
  have HS2 := Lib.hid (HS'.out (some ⟨g4, 0, none⟩) n4 c4 HN4.out)
  clear HX4 HG4 HX2 HG HO HO4 HB HX HK HB0 HH HS' HN4 hd1 hd2 c19g frg
  have Hlt := Lib.hid hlt
  clear hlt
  have hd3 : decide (s' < s) = false := decide_eq_false (by omega)
  have hd4 : decide (s < 64) = false := decide_eq_false (by omega)
  obtain ⟨f', hf'⟩ : ∃ x, x = f.with (f.data ++ xs) := ⟨_, rfl⟩
  rw [← hf'] at H0 HS2
  clear hf'
  have HC1 : ∀ W, Two w w.heap.size w2.heap.size f f' (.slice p n c) (.slice (some ⟨g4, 0, none⟩) n4 c4) W → Calls Try.prog 18 #[.agg (FC f (.slice p n c))] W fun e W' => e = .returned (.int .i64 s) ∧ Two w w.heap.size w2.heap.size f f' (.slice p n c) (.slice (some ⟨g4, 0, none⟩) n4 c4) W' :=
    fun W k => (HS.out.go W).mono fun e W' hh => ⟨hh.1, k.call hh.2⟩
  have HC2 : ∀ W, Two w w.heap.size w2.heap.size f f' (.slice p n c) (.slice (some ⟨g4, 0, none⟩) n4 c4) W → Calls Try.prog 18 #[.agg (FC f' (.slice (some ⟨g4, 0, none⟩) n4 c4))] W fun e W' => e = .returned (.int .i64 s') ∧ Two w w.heap.size w2.heap.size f f' (.slice p n c) (.slice (some ⟨g4, 0, none⟩) n4 c4) W' :=
    fun W k => (HS2.out.go W).mono fun e W' hh => ⟨hh.1, k.call hh.2⟩
  refine wp_region_held_drew (S := Two w w.heap.size w2.heap.size f f' (.slice p n c) (.slice (some ⟨g4, 0, none⟩) n4 c4)) (by kernel_rfl) H0.drew (fun hT => ?_)
  generalize World.drew _ = wd at hT ⊢
  refine hTake (i := 0) (k := 31) rfl rfl (by kernel_rfl) (by kernel_rfl) (by kernel_rfl) (fun _ _ _ h => h) (yieldsIf_loadF (by rfl) _ rfl w2.heap.size rfl f' (.slice (some ⟨g4, 0, none⟩) n4 c4) (fun _ k => k.2.1)) hT ?_
  simp only [List.setIfInBounds_toArray, List.set_cons_zero, List.set_cons_succ]
  refine hTake (i := 2) (k := 33) rfl rfl (by kernel_rfl) (by kernel_rfl) (by kernel_rfl) (fun _ _ _ h => h) (yieldsIf_loadF (by rfl) _ rfl w.heap.size rfl f (.slice p n c) (fun _ k => k.1)) hT ?_
  simp only [List.setIfInBounds_toArray, List.set_cons_zero, List.set_cons_succ]
  refine hCall (i := 1) (k := 32) (by kernel_rfl) rfl rfl (by rfl) 18 #[.agg (FC f' (.slice (some ⟨g4, 0, none⟩) n4 c4))] (by intro W; go_simp) (.int .i64 s') HC2 hT (fun wa hTa => ?_)
  simp only [List.setIfInBounds_toArray, List.set_cons_zero, List.set_cons_succ]
  refine hCall (i := 3) (k := 34) (by kernel_rfl) rfl rfl (by rfl) 18 #[.agg (FC f (.slice p n c))] (by intro W; go_simp) (.int .i64 s) HC1 hTa (fun wb hTb => ?_)
  simp only [List.setIfInBounds_toArray, List.set_cons_zero, List.set_cons_succ]
  refine hTake (i := 4) (k := 35) (v := .bool false) rfl rfl (by kernel_rfl) (by kernel_rfl) (by kernel_rfl) (fun _ _ _ h => h) (yieldsIf_val (by rfl) (by intro W; go_simp)) hTb ?_
  simp only [List.setIfInBounds_toArray, List.set_cons_zero, List.set_cons_succ]
  refine hTake (i := 5) (k := 36) (v := .bool false) rfl rfl (by kernel_rfl) (by kernel_rfl) (by kernel_rfl) (fun _ _ _ h => h) (yieldsIf_val (by rfl) (by intro W; go_simp)) hTb ?_
  simp only [List.setIfInBounds_toArray, List.set_cons_zero, List.set_cons_succ]
  refine hTake (i := 6) (k := 37) rfl rfl (by kernel_rfl) (by kernel_rfl) (by kernel_rfl) (fun _ _ _ h => h) (yieldsIf_loadF (by rfl) _ rfl w.heap.size rfl f (.slice p n c) (fun _ k => k.1)) hTb ?_
  simp only [List.setIfInBounds_toArray, List.set_cons_zero, List.set_cons_succ]
  refine hCall (i := 7) (k := 38) (by kernel_rfl) rfl rfl (by rfl) 18 #[.agg (FC f (.slice p n c))] (by intro W; go_simp) (.int .i64 s) HC1 hTb (fun wc hTc => ?_)
  simp only [List.setIfInBounds_toArray, List.set_cons_zero, List.set_cons_succ]
  refine hTake (i := 8) (k := 39) (v := .bool false) rfl rfl (by kernel_rfl) (by kernel_rfl) (by kernel_rfl) (fun _ _ _ h => h) (yieldsIf_val (by rfl) (by intro W; go_simp)) hTc ?_
  simp only [List.setIfInBounds_toArray, List.set_cons_zero, List.set_cons_succ]
  refine hTake (i := 9) (k := 40) (v := .bool false) rfl rfl (by kernel_rfl) (by kernel_rfl) (by kernel_rfl) (fun _ _ _ h => h) (yieldsIf_val (by rfl) (by intro W; go_simp)) hTc ?_
  simp only [List.setIfInBounds_toArray, List.set_cons_zero, List.set_cons_succ]
  refine wpAnyH_done (by kernel_rfl) ?_ _
  have HT := Lib.hid hTc
  clear HC1 HC2 H0 hT hTa hTb hTc hd3 hd4
  have c19 := HT.out.1.c19
  have c12 := HT.out.1.c12
  have c16 := HT.out.1.c16
  rw [htg.out] at c12
  rw [hmn.out] at c16
  have HWT := Lib.hid HT.out.1.eq
  have HWT2 : Hid (∀ o, (wc.alloc o).heap[w.heap.size]? = some (.cells (FC f (.slice p n c)) 26 (0, 0))) := Lib.hid (fun o => (HT.out.1.below (bAl (bRef wc) o)).eq)
  go_wp2_with (first
    | ((with_reducible refine at_loadF ?_); refine wpList_loadF rfl _ rfl w.heap.size rfl _ _ HWT.out rfl ?_)
    | ((with_reducible refine at_loadF ?_); refine wpList_loadF rfl _ rfl w.heap.size rfl _ _ (HWT2.out _) rfl ?_)
    | ((with_reducible refine at_storeF ?_); refine wpList_storeN (w := wc) rfl _ _ rfl (FC f (.slice p n c)) _ rfl rfl (FC_one f p n c) rfl rfl ?_; have HTb : Hid (Boxed (wc.alloc (.cells (FC f (.slice p n c)) 26)) wc.heap.size f (.slice p n c)) := Lib.hid (heap_alloc_new wc _); have t12 := HTb.out.c12; have frt := HTb.out.fr 12)
    | ((with_reducible refine at_storeF ?_); refine wpList_storeNg (w := wc.alloc (.cells ((FC f (.slice p n c)).setIfInBounds 12 (.bool true)) 26)) rfl _ _ rfl (wc.heap.size + 1) (by simp) (FC f (.slice p n c)) _ rfl rfl (FC_one f p n c) rfl rfl ?_; have HNb : Hid (Boxed ((wc.alloc (.cells ((FC f (.slice p n c)).setIfInBounds 12 (.bool true)) 26)).alloc (.cells (FC f (.slice p n c)) 26)) (wc.heap.size + 1) f (.slice p n c)) := Lib.hid (box_two wc _ f _); have n16 := HNb.out.c16; have frn := HNb.out.fr 16))
  have H4 : Four w w.heap.size w2.heap.size wc.heap.size (wc.heap.size + 1) f f' f.tagged f.many (.slice p n c) (.slice (some ⟨g4, 0, none⟩) n4 c4) ((wc.alloc (.cells ((FC f (.slice p n c)).setIfInBounds 12 (.bool true)) 26)).alloc (.cells ((FC f (.slice p n c)).setIfInBounds 16 (.bool true)) 26)) :=
    ⟨HT.out.1.below (bAl (bAl (bRef wc) _) _), HT.out.2.1.below (bAl (bAl (bRef wc) _) _), Boxed.below (w := wc.alloc (.cells ((FC f (.slice p n c)).setIfInBounds 12 (.bool true)) 26)) (heap_alloc_new wc _) (bAl (bRef _) _), box_two wc _ f.many (.slice p n c), bAl (bAl HT.out.2.2 _) _⟩
  have e4 : IntKind.i64.wrap (s + 4) = s + 4 := by rw [IntKind.wrap_i64]; omega
  have e6 : IntKind.i64.wrap (s + 6) = s + 6 := by rw [IntKind.wrap_i64]; omega
  have em : IntKind.i64.wrap (s + (m : Int)) = s' := by rw [IntKind.wrap_i64, hsm.out]; omega
  have KF : ∀ W, Four w w.heap.size w2.heap.size wc.heap.size (wc.heap.size + 1) f f' f.tagged f.many (.slice p n c) (.slice (some ⟨g4, 0, none⟩) n4 c4) W → Calls Try.prog 18 #[.agg (FC f (.slice p n c))] W fun e W' => e = .returned (.int .i64 s) ∧ Four w w.heap.size w2.heap.size wc.heap.size (wc.heap.size + 1) f f' f.tagged f.many (.slice p n c) (.slice (some ⟨g4, 0, none⟩) n4 c4) W' :=
    fun W k => (HS.out.go W).mono fun e W' hh => ⟨hh.1, k.call hh.2⟩
  have KG : ∀ W, Four w w.heap.size w2.heap.size wc.heap.size (wc.heap.size + 1) f f' f.tagged f.many (.slice p n c) (.slice (some ⟨g4, 0, none⟩) n4 c4) W → Calls Try.prog 18 #[.agg (FC f' (.slice (some ⟨g4, 0, none⟩) n4 c4))] W fun e W' => e = .returned (.int .i64 s') ∧ Four w w.heap.size w2.heap.size wc.heap.size (wc.heap.size + 1) f f' f.tagged f.many (.slice p n c) (.slice (some ⟨g4, 0, none⟩) n4 c4) W' :=
    fun W k => (HS2.out.go W).mono fun e W' hh => ⟨hh.1, k.call hh.2⟩
  have KT : ∀ W, Four w w.heap.size w2.heap.size wc.heap.size (wc.heap.size + 1) f f' f.tagged f.many (.slice p n c) (.slice (some ⟨g4, 0, none⟩) n4 c4) W → Calls Try.prog 18 #[.agg (FC f.tagged (.slice p n c))] W fun e W' => e = .returned (.int .i64 (s + 4)) ∧ Four w w.heap.size w2.heap.size wc.heap.size (wc.heap.size + 1) f f' f.tagged f.many (.slice p n c) (.slice (some ⟨g4, 0, none⟩) n4 c4) W' :=
    fun W k => (HST.out.go W).mono fun e W' hh => ⟨hh.1, k.call hh.2⟩
  have KN : ∀ W, Four w w.heap.size w2.heap.size wc.heap.size (wc.heap.size + 1) f f' f.tagged f.many (.slice p n c) (.slice (some ⟨g4, 0, none⟩) n4 c4) W → Calls Try.prog 18 #[.agg (FC f.many (.slice p n c))] W fun e W' => e = .returned (.int .i64 (s + 6)) ∧ Four w w.heap.size w2.heap.size wc.heap.size (wc.heap.size + 1) f f' f.tagged f.many (.slice p n c) (.slice (some ⟨g4, 0, none⟩) n4 c4) W' :=
    fun W k => (HSN.out.go W).mono fun e W' hh => ⟨hh.1, k.call hh.2⟩
  refine wp_region_held_drew (S := Four w w.heap.size w2.heap.size wc.heap.size (wc.heap.size + 1) f f' f.tagged f.many (.slice p n c) (.slice (some ⟨g4, 0, none⟩) n4 c4)) (by kernel_rfl) H4.drew (fun k0 => ?_)
  generalize World.drew _ = we at k0 ⊢
  refine hTake (i := 0) (k := 57) rfl rfl (by kernel_rfl) (by kernel_rfl) (by kernel_rfl) (fun _ _ _ h => h) (yieldsIf_loadF (by rfl) _ rfl wc.heap.size rfl f.tagged (.slice p n c) (fun _ k => k.2.2.1)) k0 ?_
  simp only [List.setIfInBounds_toArray, List.set_cons_zero, List.set_cons_succ]
  refine hTake (i := 2) (k := 59) rfl rfl (by kernel_rfl) (by kernel_rfl) (by kernel_rfl) (fun _ _ _ h => h) (yieldsIf_loadF (by rfl) _ rfl w.heap.size rfl f (.slice p n c) (fun _ k => k.1)) k0 ?_
  simp only [List.setIfInBounds_toArray, List.set_cons_zero, List.set_cons_succ]
  refine hCall (i := 1) (k := 58) (by kernel_rfl) rfl rfl (by rfl) 18 #[.agg (FC f.tagged (.slice p n c))] (by intro W; go_simp) (.int .i64 (s + 4)) KT k0 (fun x1 k1 => ?_)
  simp only [List.setIfInBounds_toArray, List.set_cons_zero, List.set_cons_succ]
  refine hCall (i := 3) (k := 60) (by kernel_rfl) rfl rfl (by rfl) 18 #[.agg (FC f (.slice p n c))] (by intro W; go_simp) (.int .i64 s) KF k1 (fun x2 k2 => ?_)
  simp only [List.setIfInBounds_toArray, List.set_cons_zero, List.set_cons_succ]
  refine hTake (i := 4) (k := 61) (v := .int .i64 (s + 4)) rfl rfl (by kernel_rfl) (by kernel_rfl) (by kernel_rfl) (fun _ _ _ h => h) (yieldsIf_val (by rfl) (by intro W; go_simp)) k2 ?_
  simp only [List.setIfInBounds_toArray, List.set_cons_zero, List.set_cons_succ]
  refine hTake (i := 5) (k := 62) (v := .bool true) rfl rfl (by kernel_rfl) (by kernel_rfl) (by kernel_rfl) (fun _ _ _ h => h) (yieldsIf_val (by rfl) (by intro W; go_simp)) k2 ?_
  simp only [List.setIfInBounds_toArray, List.set_cons_zero, List.set_cons_succ]
  refine hTake (i := 6) (k := 63) (v := .bool true) rfl rfl (by kernel_rfl) (by kernel_rfl) (by kernel_rfl) (fun _ _ _ h => h) (yieldsIf_val (by rfl) (by intro W; go_simp)) k2 ?_
  simp only [List.setIfInBounds_toArray, List.set_cons_zero, List.set_cons_succ]
  refine hTake (i := 7) (k := 64) rfl rfl (by kernel_rfl) (by kernel_rfl) (by kernel_rfl) (fun _ _ _ h => h) (yieldsIf_loadF (by rfl) _ rfl (wc.heap.size + 1) rfl f.many (.slice p n c) (fun _ k => k.2.2.2.1)) k2 ?_
  simp only [List.setIfInBounds_toArray, List.set_cons_zero, List.set_cons_succ]
  refine hTake (i := 9) (k := 66) rfl rfl (by kernel_rfl) (by kernel_rfl) (by kernel_rfl) (fun _ _ _ h => h) (yieldsIf_loadF (by rfl) _ rfl w.heap.size rfl f (.slice p n c) (fun _ k => k.1)) k2 ?_
  simp only [List.setIfInBounds_toArray, List.set_cons_zero, List.set_cons_succ]
  refine hCall (i := 8) (k := 65) (by kernel_rfl) rfl rfl (by rfl) 18 #[.agg (FC f.many (.slice p n c))] (by intro W; go_simp) (.int .i64 (s + 6)) KN k2 (fun x3 k3 => ?_)
  simp only [List.setIfInBounds_toArray, List.set_cons_zero, List.set_cons_succ]
  refine hCall (i := 10) (k := 67) (by kernel_rfl) rfl rfl (by rfl) 18 #[.agg (FC f (.slice p n c))] (by intro W; go_simp) (.int .i64 s) KF k3 (fun x4 k4 => ?_)
  simp only [List.setIfInBounds_toArray, List.set_cons_zero, List.set_cons_succ]
  refine hTake (i := 11) (k := 68) (v := .int .i64 (s + 6)) rfl rfl (by kernel_rfl) (by kernel_rfl) (by kernel_rfl) (fun _ _ _ h => h) (yieldsIf_val (by rfl) (by intro W; go_simp)) k4 ?_
  simp only [List.setIfInBounds_toArray, List.set_cons_zero, List.set_cons_succ]
  refine hTake (i := 12) (k := 69) (v := .bool true) rfl rfl (by kernel_rfl) (by kernel_rfl) (by kernel_rfl) (fun _ _ _ h => h) (yieldsIf_val (by rfl) (by intro W; go_simp)) k4 ?_
  simp only [List.setIfInBounds_toArray, List.set_cons_zero, List.set_cons_succ]
  refine hTake (i := 13) (k := 70) (v := .bool true) rfl rfl (by kernel_rfl) (by kernel_rfl) (by kernel_rfl) (fun _ _ _ h => h) (yieldsIf_val (by rfl) (by intro W; go_simp)) k4 ?_
  simp only [List.setIfInBounds_toArray, List.set_cons_zero, List.set_cons_succ]
  refine hTake (i := 14) (k := 71) (v := .bool true) rfl rfl (by kernel_rfl) (by kernel_rfl) (by kernel_rfl) (fun _ _ _ h => h) (yieldsIf_val (by rfl) (by intro W; go_simp)) k4 ?_
  simp only [List.setIfInBounds_toArray, List.set_cons_zero, List.set_cons_succ]
  refine hTake (i := 15) (k := 72) rfl rfl (by kernel_rfl) (by kernel_rfl) (by kernel_rfl) (fun _ _ _ h => h) (yieldsIf_loadF (by rfl) _ rfl w2.heap.size rfl f' (.slice (some ⟨g4, 0, none⟩) n4 c4) (fun _ k => k.2.1)) k4 ?_
  simp only [List.setIfInBounds_toArray, List.set_cons_zero, List.set_cons_succ]
  refine hTake (i := 17) (k := 74) rfl rfl (by kernel_rfl) (by kernel_rfl) (by kernel_rfl) (fun _ _ _ h => h) (yieldsIf_loadF (by rfl) _ rfl w.heap.size rfl f (.slice p n c) (fun _ k => k.1)) k4 ?_
  simp only [List.setIfInBounds_toArray, List.set_cons_zero, List.set_cons_succ]
  refine hTake (i := 19) (k := 76) (v := .slice q m d) rfl rfl (by kernel_rfl) (by kernel_rfl) (by kernel_rfl) (fun _ _ _ h => h) (yieldsIf_val (by rfl) (by intro W; go_simp)) k4 ?_
  simp only [List.setIfInBounds_toArray, List.set_cons_zero, List.set_cons_succ]
  refine hTake (i := 20) (k := 77) (v := .int .i64 (m : Int)) rfl rfl (by kernel_rfl) (by kernel_rfl) (by kernel_rfl) (fun _ _ _ h => h) (yieldsIf_val (by rfl) (by intro W; go_simp)) k4 ?_
  simp only [List.setIfInBounds_toArray, List.set_cons_zero, List.set_cons_succ]
  refine hCall (i := 16) (k := 73) (by kernel_rfl) rfl rfl (by rfl) 18 #[.agg (FC f' (.slice (some ⟨g4, 0, none⟩) n4 c4))] (by intro W; go_simp) (.int .i64 s') KG k4 (fun x5 k5 => ?_)
  simp only [List.setIfInBounds_toArray, List.set_cons_zero, List.set_cons_succ]
  refine hCall (i := 18) (k := 75) (by kernel_rfl) rfl rfl (by rfl) 18 #[.agg (FC f (.slice p n c))] (by intro W; go_simp) (.int .i64 s) KF k5 (fun x6 k9 => ?_)
  simp only [List.setIfInBounds_toArray, List.set_cons_zero, List.set_cons_succ]
  refine hTake (i := 21) (k := 78) (v := .int .i64 s') rfl rfl (by kernel_rfl) (by kernel_rfl) (by kernel_rfl) (fun _ _ _ h => h) (yieldsIf_val (by rfl) (by intro W; go_simp)) k9 ?_
  simp only [List.setIfInBounds_toArray, List.set_cons_zero, List.set_cons_succ]
  refine hTake (i := 22) (k := 79) (v := .bool true) rfl rfl (by kernel_rfl) (by kernel_rfl) (by kernel_rfl) (fun _ _ _ h => h) (yieldsIf_val (by rfl) (by intro W; go_simp)) k9 ?_
  simp only [List.setIfInBounds_toArray, List.set_cons_zero, List.set_cons_succ]
  refine hTake (i := 23) (k := 80) (v := .bool true) rfl rfl (by kernel_rfl) (by kernel_rfl) (by kernel_rfl) (fun _ _ _ h => h) (yieldsIf_val (by rfl) (by intro W; go_simp)) k9 ?_
  simp only [List.setIfInBounds_toArray, List.set_cons_zero, List.set_cons_succ]
  refine hTake (i := 24) (k := 4) (v := .bool true) rfl rfl (by kernel_rfl) (by kernel_rfl) (by kernel_rfl) (fun _ _ _ h => h) (yieldsIf_val (by rfl) (by intro W; go_simp)) k9 ?_
  simp only [List.setIfInBounds_toArray, List.set_cons_zero, List.set_cons_succ]
  refine wpAnyH_done (by kernel_rfl) ?_ _
  go_wp2_with fail
  go_ret
  exact ⟨rfl, k9.2.2.2.2⟩

end Go.Proofs.Ytbpkjljienadiaa
