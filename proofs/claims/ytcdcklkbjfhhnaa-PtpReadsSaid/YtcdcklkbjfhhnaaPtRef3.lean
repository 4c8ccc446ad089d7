/- The reference's Check of a message. -/
import Derived.Test.YtcdcklkbjfhhnaaPtRef2
import Derived.Test.YtcdcklkbjfhhnaaPtSame
namespace Go.Proofs.Ytcdcklkbjfhhnaa
open Go.RowKit Go.Joins

/-- Which numbers a kind has, marked in an array. -/
def hadB (ks : List Nat) (i : Nat) : Bool := i == 0 || ks.contains i
def hadC (ks : List Nat) : Array Value := ((List.range 15).map fun i => Value.bool (hadB ks i)).toArray
theorem hadC_at (ks : List Nat) (i : Nat) (h : i < 15) : (hadC ks)[i]? = some (.bool (hadB ks i)) := by
  simp [hadC, h]
theorem hadC_set (ks : List Nat) (k : Nat) (h : k < 15) : (hadC ks).setIfInBounds k (.bool true) = hadC (ks ++ [k]) := by
  apply Array.ext_getElem?
  intro i
  rw [Array.getElem?_setIfInBounds]
  rcases Nat.lt_or_ge i 15 with hi | hi
  · rw [hadC_at _ _ hi]
    split
    · rename_i e
      subst e
      rw [if_pos (by simp [hadC, h]), hadC_at _ _ h]
      simp [hadB]
    · rename_i e
      rw [hadC_at _ _ hi]
      simp only [hadB, List.contains_append, List.contains_cons, List.contains_nil, Bool.or_false]
      have : (i == k) = false := by simp; omega
      rw [this, Bool.or_false]
  · have h1 : (hadC (ks ++ [k]))[i]? = none := by simp [hadC]; omega
    have h2 : (hadC ks)[i]? = none := by simp [hadC]; omega
    rw [h1, h2]
    split
    · rename_i e; omega
    · rfl
/-- The reference's message in a block. -/
def BoxS (W : World) (g : Nat) (m : Mg) (v : Value) : Prop := W.heap[g]? = some (.cells (MC m v) 38 (0, 0))
theorem BoxS.below {W W' : World} {g : Nat} {m : Mg} {v : Value} (h : BoxS W g m v) (hb : Below W.heap.size W W') : BoxS W' g m v := Oth.below hb _ _ _ _ h (by decide)
def nums (m : Mg) : List Int := [m.kind, m.dom, m.seq, m.src, m.port, m.corr, m.time, m.tw, m.tp, m.rate, m.one, m.cls, m.two, m.id, m.steps]
theorem BoxS.num {W : World} {g : Nat} {m : Mg} {v : Value} (h : BoxS W g m v) (i : Nat) (hi : i < 15) : W.cell? ⟨g, i, none⟩ = some (.int .i64 ((nums m).getD i 0)) := by
  rw [cell_of_row W g i _ _ _ h]
  have : i = 0 ∨ i = 1 ∨ i = 2 ∨ i = 3 ∨ i = 4 ∨ i = 5 ∨ i = 6 ∨ i = 7 ∨ i = 8 ∨ i = 9 ∨ i = 10 ∨ i = 11 ∨ i = 12 ∨ i = 13 ∨ i = 14 := by omega
  rcases this with rfl | rfl | rfl | rfl | rfl | rfl | rfl | rfl | rfl | rfl | rfl | rfl | rfl | rfl | rfl <;> rfl
theorem BoxS.path {W : World} {g : Nat} {m : Mg} {v : Value} (h : BoxS W g m v) : W.cell? ⟨g, 15, none⟩ = some v := by
  rw [cell_of_row W g 15 _ _ _ h]; rfl
def sizes : List Nat := [0, 1, 2, 6, 2, 8, 8, 6, 2, 8, 1, 1, 1, 6, 1]
def sizC : Array Value := (sizes.map fun (n : Nat) => Value.int .i64 (n : Int)).toArray

theorem rc_kind (m : Mg) (p : Option Addr) (n c : Nat) (w : World) (HF : Hid (∀ wx, ∃ ps, Calls Try.prog 20 #[.int .i64 m.kind] wx (FldPost wx ps false))) :
    Calls Try.prog 19 #[.agg (MC m (.slice p n c))] w fun e w' => e = .returned (.int .i64 23) ∧ Below w.heap.size w w' := by
  have HB0 : Hid (BoxS (w.alloc (.cells (MC m (.slice p n c)) 38)) w.heap.size m (.slice p n c)) := Lib.hid (heap_alloc_new w _)
  obtain ⟨ps, hf⟩ := HF.out (w.alloc (.cells (MC m (.slice p n c)) 38))
  have HF2 := Lib.hid hf
  clear hf HF
  have k0 := HB0.out.num 0 (by omega)
  simp only [nums, List.getD_cons_zero] at k0
  go_enter Try.func19, Try.ntmps19
  go_wp2_with (go_at_call 20; (with_reducible refine HF2.out.mono ?_); rintro e w1 ⟨g1, c1, rfl, hp, hb⟩; have HB := Lib.hid (bTr (bAl (bRef w) _) hb); clear hb hp)
  go_ret
  exact ⟨rfl, HB.out⟩

theorem heap_keep {W : World} {g gh i : Nat} {x : Value} {cs ch : Array Value} {t th : TypeId} {fr fh : Nat × Nat} (h : W.heap[g]? = some (.cells cs t fr)) (hh : W.heap[gh]? = some (.cells ch th fh)) (ht : t ≠ th) : (W.setCell ⟨gh, i, none⟩ x).heap[g]? = some (.cells cs t fr) := by
  rw [heap_setCell_other W _ g x ?_]; exact h
  rintro rfl
  rw [h] at hh; injection hh with hh; injection hh with _ hh _; exact ht hh
def badB (m : Mg) (ks : List Nat) (i : Nat) : Bool := !(fitB (sizes.getD i 0) ((nums m).getD i 0)) || (!(hadB ks i) && (nums m).getD i 0 != 0)
/-- What is wrong with a message of a kind that is one, as the reference asks. -/
def chk6 (m : Mg) (ks : List Nat) : Nat :=
  if 127 < m.dom then 1 else if (List.range 14).any (fun i => badB m ks (i + 1)) then 1 else if m.kind ≠ 11 ∧ 0 < m.path.length then 1 else if 32 < m.path.length then 4 else if m.path.all (fitB 6) then 0 else 1
def LoopRel (w : World) (gh gz : Nat) (m : Mg) (v : Value) (ks : List Nat) (iv : Value) (wr : World) : Prop :=
  ∃ i : Nat, 1 ≤ i ∧ i ≤ 15 ∧ iv = .int .i64 (i : Int) ∧ (∀ k, 1 ≤ k → k < i → badB m ks k = false) ∧ BoxS wr w.heap.size m v ∧ wr.heap[gh]? = some (.cells (hadC ks) 66 (0, 0)) ∧ wr.heap[gz]? = some (.cells sizC 36 (0, 0)) ∧ Below w.heap.size w wr
theorem sizC_at (i : Nat) (h : i < 15) : sizC[i]? = some (.int .i64 ((sizes.getD i 0 : Nat) : Int)) := by
  have : i = 0 ∨ i = 1 ∨ i = 2 ∨ i = 3 ∨ i = 4 ∨ i = 5 ∨ i = 6 ∨ i = 7 ∨ i = 8 ∨ i = 9 ∨ i = 10 ∨ i = 11 ∨ i = 12 ∨ i = 13 ∨ i = 14 := by omega
  rcases this with rfl | rfl | rfl | rfl | rfl | rfl | rfl | rfl | rfl | rfl | rfl | rfl | rfl | rfl | rfl <;> rfl
theorem sizes_ok (i : Nat) (h1 : 1 ≤ i) (h : i < 15) : sizes.getD i 0 = 1 ∨ sizes.getD i 0 = 2 ∨ sizes.getD i 0 = 6 ∨ sizes.getD i 0 = 8 := by
  have : i = 1 ∨ i = 2 ∨ i = 3 ∨ i = 4 ∨ i = 5 ∨ i = 6 ∨ i = 7 ∨ i = 8 ∨ i = 9 ∨ i = 10 ∨ i = 11 ∨ i = 12 ∨ i = 13 ∨ i = 14 := by omega
  rcases this with rfl | rfl | rfl | rfl | rfl | rfl | rfl | rfl | rfl | rfl | rfl | rfl | rfl | rfl <;> decide
theorem ret_lit {X k : Nat} (h : X = k) : Ending.returned (Value.int .i64 ((k : Nat) : Int)) = .returned (.int .i64 (X : Int)) := by rw [h]
theorem any_bad {m : Mg} {ks : List Nat} {i : Nat} (h1 : 1 ≤ i) (h : i < 15) (hb : badB m ks i = true) : ((List.range 14).any (fun i => badB m ks (i + 1))) = true := by
  rw [List.any_eq_true]
  exact ⟨i - 1, by simp; omega, by rw [show i - 1 + 1 = i by omega]; exact hb⟩
theorem no_bad {m : Mg} {ks : List Nat} (h : ∀ k, 1 ≤ k → k < 15 → badB m ks k = false) : ((List.range 14).any (fun i => badB m ks (i + 1))) = false := by
  rw [List.any_eq_false]
  intro i hi
  rw [h (i + 1) (by omega) (by simp at hi; omega)]; simp
theorem quiet_w {f : FuncId} {args : Array Value} {w : World} {n : Nat} {v : Value} (h : RetQ f args v) : Calls Try.prog f args (w.drewN n) fun e w'' => e = .returned v ∧ ∃ m, w'' = w.drewN m :=
  (h _).mono fun _ _ ⟨he, hm⟩ => ⟨he, n, hm.symm⟩
def HadRel (w : World) (gh g1 : Nat) (m : Mg) (v : Value) (ps : List (Nat × Nat)) (iv : Value) (wr : World) : Prop :=
  ∃ j : Nat, j ≤ ps.length ∧ iv = .int .i64 (j : Int) ∧ BoxS wr w.heap.size m v ∧ PRow wr g1 ps ∧ wr.heap[gh]? = some (.cells (hadC ((ps.take j).map Prod.fst)) 66 (0, 0)) ∧ Below w.heap.size w wr
theorem had_go {w wr : World} {gh g1 j a : Nat} {m : Mg} {v : Value} {ps : List (Nat × Nat)} {b : Int} (g : j < ps.length) (hpe : (ps.take (j + 1)).map Prod.fst = (ps.take j).map Prod.fst ++ [a]) (hx : BoxS wr w.heap.size m v) (hp : PRow wr g1 ps)
    (hh : wr.heap[gh]? = some (.cells (hadC ((ps.take j).map Prod.fst)) 66 (0, 0))) (hb : Below w.heap.size w wr) (ha : a < 15) (hg : w.heap.size ≤ gh) (ji : Int) (hji : ji = (j : Int) + 1) :
    HadRel w gh g1 m v ps (.int .i64 ji) ((wr.alloc (.cells #[.int .i64 (a : Int), .int .i64 b] 58)).setCell ⟨gh, a, none⟩ (.bool true)) := by
  have hh2 : (wr.alloc (.cells #[.int .i64 (a : Int), .int .i64 b] 58)).heap[gh]? = some (.cells (hadC ((ps.take j).map Prod.fst)) 66 (0, 0)) := Oth.below (bAl (bRef wr) _) _ _ _ _ hh (by decide)
  have hx2 := hx.below (bAl (bRef wr) (.cells #[.int .i64 (a : Int), .int .i64 b] 58))
  obtain ⟨cs, fr, hq, hc⟩ := hp.below (bAl (bRef wr) (.cells #[.int .i64 (a : Int), .int .i64 b] 58))
  refine ⟨j + 1, g, by rw [hji]; rfl, heap_keep hx2 hh2 (by decide), ⟨cs, fr, heap_keep hq hh2 (by decide), hc⟩, ?_, (bAl hb _).setCell hg _⟩
  rw [hpe, ← hadC_set _ _ ha]
  exact heap_setCell_same _ gh a _ _ _ hh2
def PthRel (path : List Int) (iv : Value) : Prop := ∃ j : Nat, j ≤ path.length ∧ iv = .int .i64 (j : Int) ∧ ∀ i, i < j → fitB 6 (path.getD i 0) = true
theorem loop_go {w wx : World} {gh gz i : Nat} {m : Mg} {v : Value} {ks : List Nat} (h1 : 1 ≤ i) (gi : i < 15) (hall : ∀ k, 1 ≤ k → k < i → badB m ks k = false) (hb : badB m ks i = false) (hx : BoxS wx w.heap.size m v) (hh : wx.heap[gh]? = some (.cells (hadC ks) 66 (0, 0)))
    (hz : wx.heap[gz]? = some (.cells sizC 36 (0, 0))) (hbel : Below w.heap.size w wx) (n : Nat) (ji : Int) (hji : ji = (i : Int) + 1) : LoopRel w gh gz m v ks (.int .i64 ji) (wx.drewN n) :=
  ⟨i + 1, by omega, by omega, by rw [hji]; rfl, fun k a b => by
    rcases Nat.lt_or_ge k i with h | h
    · exact hall k a h
    · obtain rfl : k = i := by omega
      exact hb, hx, hh, hz, bDr hbel n⟩
set_option maxRecDepth 100000 in
set_option maxHeartbeats 8000000 in
theorem rc_main (m : Mg) (p : Option Addr) (n c : Nat) (w : World) (ps : List (Nat × Nat)) (hl : ps.length ≤ 20) (hn : Hid (n = m.path.length)) (hA : Hid (LArg w (.slice p n c) m.path)) (hps : Hid (∀ j, j < ps.length → (ps.getD j (0, 0)).1 < 15)) (HF : Hid (∀ wx, Calls Try.prog 20 #[.int .i64 m.kind] wx (FldPost wx ps true))) :
    Calls Try.prog 19 #[.agg (MC m (.slice p n c))] w fun e w' => e = .returned (.int .i64 ((chk6 m (ps.map Prod.fst) : Nat) : Int)) ∧ Below w.heap.size w w' := by
  have HB0 : Hid (BoxS (w.alloc (.cells (MC m (.slice p n c)) 38)) w.heap.size m (.slice p n c)) := Lib.hid (heap_alloc_new w _)
  have k0 := HB0.out.num 0 (by omega)
  simp only [nums, List.getD_cons_zero] at k0
  obtain ⟨L, hL⟩ : ∃ L, L = ps.length := ⟨_, rfl⟩
  obtain ⟨X, hX⟩ : ∃ X, X = chk6 m (ps.map Prod.fst) := ⟨_, rfl⟩
  rw [← hX]
  have HXe := Lib.hid hX
  clear hX
  go_enter Try.func19, Try.ntmps19
  go_wp2_with (go_at_call 20; (with_reducible refine (HF.out _).mono ?_); rintro e w1 ⟨g1, c1, rfl, hp, hb⟩; rw [← hL]; have HP := Lib.hid hp; have HX := Lib.hid (HB0.out.below hb); have HB := Lib.hid (bTr (bAl (bRef w) _) hb); clear hb hp)
  have HG1 := Lib.hid (show w.heap.size ≤ w1.heap.size from HB.out.size)
  go_loopw [25] (fun iv wr => HadRel w w1.heap.size g1 m (.slice p n c) ps iv wr) (fun iv _ => ps.length - (intOf iv).toNat)
  case atStart => exact ⟨0, by omega, rfl, HX.out.below (bAl (bRef w1) _), HP.out.below (bAl (bRef w1) _), heap_alloc_new w1 _, bAl HB.out _⟩
  case round =>
    obtain ⟨j, hj, rfl, hx, hp, hh, hb⟩ := hrel
    have HX2 := Lib.hid hx
    have HP2 := Lib.hid hp
    have HH2 := Lib.hid hh
    have HB2 := Lib.hid hb
    clear hx hp hh hb
    rcases Nat.lt_or_ge j ps.length with g | g
    · have hd : decide ((j : Int) < (ps.length : Int)) = true := decide_eq_true (by omega)
      obtain ⟨cs, fr, hg, hc⟩ := HP2.out
      obtain ⟨hc1, hc2⟩ := hc j g
      have ka : wr.cell? ⟨g1, j * 2, none⟩ = some (.int .i64 ((ps.getD j (0, 0)).1 : Int)) := by rw [Nat.mul_comm, cell_of_row wr g1 _ _ _ _ hg]; exact hc1
      have kb : wr.cell? ⟨g1, j * 2 + 1, none⟩ = some (.int .i64 ((ps.getD j (0, 0)).2 : Int)) := by rw [Nat.mul_comm, cell_of_row wr g1 _ _ _ _ hg]; exact hc2
      have ha := hps.out j g
      have hpe : (ps.take (j + 1)).map Prod.fst = (ps.take j).map Prod.fst ++ [(ps.getD j (0, 0)).1] := by
        rw [List.take_succ_eq_append_getElem g, List.map_append]; simp [List.getD_eq_getElem?_getD, g]
      have HPe := Lib.hid hpe
      obtain ⟨a, hae⟩ : ∃ a, a = (ps.getD j (0, 0)).1 := ⟨_, rfl⟩
      obtain ⟨b, hbe⟩ : ∃ b, b = (ps.getD j (0, 0)).2 := ⟨_, rfl⟩
      rw [← hae] at ka ha HPe
      rw [← hbe] at kb
      have kh : ∀ ob, (wr.alloc ob).cell? ⟨w1.heap.size, a, none⟩ = some (.bool (hadB ((ps.take j).map Prod.fst) a)) := fun ob => by
        rw [cell_of_row _ _ a _ _ _ (Oth.below (bAl (bRef wr) ob) _ _ _ _ HH2.out (by decide))]
        exact hadC_at _ _ ha
      have fh : ∀ ob, (wr.alloc ob).frozen? ⟨w1.heap.size, a, none⟩ = false := fun ob => frozen_of_row _ _ a _ _ (Oth.below (bAl (bRef wr) ob) _ _ _ _ HH2.out (by decide))
      have ib : 0 ≤ (a : Int) ∧ (a : Int) < 15 := by omega
      clear hc1 hc2 hc hg hpe hae hbe cs fr
      go_wp2_with fail
      go_roundw
      case rel => exact had_go g HPe.out HX2.out HP2.out HH2.out HB2.out ha HG1.out _ rfl
      case measure => simp [intOf]; omega
    · obtain rfl : j = ps.length := by omega
      rw [List.take_length] at HH2
      have kd2 := fun ob => (HX2.out.below (bAl (bRef wr) ob)).num 1 (by omega)
      simp only [nums, List.getD_cons_succ, List.getD_cons_zero] at kd2
      rcases Int.lt_or_le 127 m.dom with hdm | hdm
      · have HX1 := Lib.hid (show X = 1 by rw [HXe.out]; unfold chk6; rw [if_pos hdm])
        go_wp2_with fail
        go_ret
        exact ⟨ret_lit (k := 1) HX1.out, bAl HB2.out _⟩
      have HDM := Lib.hid hdm
      go_wp2_with fail
      obtain ⟨wq, rfl⟩ : ∃ wq : World, wq = wr := ⟨_, rfl⟩
      go_loopw [9] (fun iv wx => LoopRel w w1.heap.size wq.heap.size m (.slice p n c) (ps.map Prod.fst) iv wx) (fun iv _ => 15 - (intOf iv).toNat)
      case atStart => exact ⟨1, by omega, by omega, rfl, fun k h1 h2 => absurd h2 (by omega), HX2.out.below (bAl (bRef wq) _), Oth.below (bAl (bRef wq) _) _ _ _ _ HH2.out (by decide), heap_alloc_new wq _, bAl HB2.out _⟩
      case round =>
        obtain ⟨i, hi1, hi2, rfl, hall, hx, hh, hz, hb⟩ := hrel
        have HX3 := Lib.hid hx
        have HH3 := Lib.hid hh
        have HZ3 := Lib.hid hz
        have HB3 := Lib.hid hb
        have HAll := Lib.hid hall
        clear hx hh hz hb hall kd2
        rcases Nat.lt_or_ge i 15 with gi | gi
        · have hd2 : decide ((i : Int) < 15) = true := decide_eq_true (by omega)
          have kN := HX3.out.num i gi
          have kS := (cell_of_row wr wq.heap.size i _ _ _ HZ3.out).trans (sizC_at i gi)
          have kH := (cell_of_row wr w1.heap.size i _ _ _ HH3.out).trans (hadC_at _ i gi)
          have HFt := Lib.hid (fits_ret ((nums m).getD i 0) (sizes.getD i 0) (sizes_ok i hi1 gi))
          have HBd := Lib.hid (show badB m (ps.map Prod.fst) i = (!(fitB (sizes.getD i 0) ((nums m).getD i 0)) || (!(hadB (ps.map Prod.fst) i) && (nums m).getD i 0 != 0)) from rfl)
          obtain ⟨x, hx⟩ : ∃ x, x = (nums m).getD i 0 := ⟨_, rfl⟩
          obtain ⟨z, hz⟩ : ∃ z, z = sizes.getD i 0 := ⟨_, rfl⟩
          obtain ⟨hb, hhb⟩ : ∃ hb, hb = hadB (ps.map Prod.fst) i := ⟨_, rfl⟩
          rw [← hx] at kN HFt HBd
          rw [← hz] at kS HFt HBd
          rw [← hhb] at kH HBd
          obtain ⟨fb, hfb⟩ : ∃ fb, fb = fitB z x := ⟨_, rfl⟩
          rw [← hfb] at HFt HBd
          clear hx hz hhb hfb
          have i1 : 0 ≤ (i : Int) ∧ (i : Int) < 15 := by omega
          cases fb with
          | false =>
            have HX1 := Lib.hid (show X = 1 by rw [HXe.out]; unfold chk6; rw [if_neg (by have := HDM.out; omega), if_pos (any_bad hi1 gi (by rw [HBd.out]; rfl))])
            go_wp2_with fail
            go_quiet ((go_at_call 28; exact quiet_w HFt.out))
            go_wp2_with fail
            go_ret
            exact ⟨ret_lit (k := 1) HX1.out, bDr HB3.out _⟩
          | true =>
            cases hb with
            | true =>
              go_wp2_with fail
              go_quiet ((go_at_call 28; exact quiet_w HFt.out))
              go_wp2_with fail
              go_roundw
              case rel => exact loop_go hi1 gi HAll.out (by rw [HBd.out]; rfl) HX3.out HH3.out HZ3.out HB3.out _ _ rfl
              case measure => simp [intOf]; omega
            | false =>
              by_cases hx0 : x = 0
              · have hx1 : (x != 0) = false := by simp [hx0]
                have HX0 := Lib.hid hx1
                clear hx0
                go_wp2_with fail
                go_quiet ((go_at_call 28; exact quiet_w HFt.out))
                go_wp2_with fail
                go_roundw
                case rel => exact loop_go hi1 gi HAll.out (by rw [HBd.out, HX0.out]; rfl) HX3.out HH3.out HZ3.out HB3.out _ _ rfl
                case measure => simp [intOf]; omega
              · have hx1 : (x != 0) = true := by simp [hx0]
                have HX1 := Lib.hid (show X = 1 by rw [HXe.out]; unfold chk6; rw [if_neg (by have := HDM.out; omega), if_pos (any_bad hi1 gi (by rw [HBd.out, hx1]; rfl))])
                clear hx0
                go_wp2_with fail
                go_quiet ((go_at_call 28; exact quiet_w HFt.out))
                go_wp2_with fail
                go_ret
                exact ⟨ret_lit (k := 1) HX1.out, bDr HB3.out _⟩
        · obtain rfl : i = 15 := by omega
          have HNo := Lib.hid (no_bad HAll.out)
          have HDM2 := Lib.hid (show ¬ 127 < m.dom by have := HDM.out; omega)
          have kk := HX3.out.num 0 (by omega)
          have kp := HX3.out.path
          simp only [nums, List.getD_cons_zero] at kk
          have HPA := Lib.hid (hA.out.below HB3.out)
          obtain ⟨kd, hkd⟩ : ∃ kd, kd = m.kind := ⟨_, rfl⟩
          have HKd := Lib.hid hkd
          by_cases h11 : kd = 11
          · have q11 : (m.kind != 11) = false := by rw [← hkd]; simp [h11]
            have HK11 := Lib.hid (show ¬ (m.kind ≠ 11 ∧ 0 < m.path.length) by rw [← hkd]; omega)
            clear h11 hkd
            rcases Nat.lt_or_ge 32 n with h32 | h32
            · have HX1 := Lib.hid (show X = 4 by rw [HXe.out]; unfold chk6; rw [if_neg (by have := HDM2.out; omega), HNo.out, if_neg (by simp), if_neg HK11.out, if_pos (by rw [← hn.out]; exact h32)])
              go_wp2_with fail
              go_ret
              exact ⟨ret_lit (k := 4) HX1.out, HB3.out⟩
            · rcases Nat.eq_zero_or_pos n with h0 | h0
              · subst h0
                have HX1 := Lib.hid (show X = 0 by
                  have hpz : m.path = [] := List.eq_nil_of_length_eq_zero hn.out.symm
                  rw [HXe.out]; unfold chk6; rw [if_neg (by have := HDM2.out; omega), HNo.out, if_neg (by simp), if_neg HK11.out, if_neg (by rw [hpz]; simp), if_pos (by rw [hpz]; rfl)])
                go_wp2_with fail
                go_loop [81] (fun iv => iv = .int .i64 0) (fun _ => 0)
                case atStart => exact rfl
                case round =>
                  obtain rfl := hrel
                  go_wp2_with fail
                  go_ret
                  exact ⟨ret_lit (k := 0) HX1.out, HB3.out⟩
              · have h32' : ¬ (32 : Int) < (n : Int) := by omega
                have HN32 := Lib.hid (show ¬ 32 < m.path.length by rw [← hn.out]; omega)
                rcases HPA.out.2 with ⟨e, _⟩ | ⟨_, b, o, c', e, _, hr⟩
                · have := hn.out; rw [e] at this; simp at this; omega
                injection e with e1 e2 e3
                subst e1 e3
                have Hr := Lib.hid hr
                clear hr e2
                go_wp2_with fail
                go_loop [81] (fun iv => PthRel m.path iv) (fun iv => n - (intOf iv).toNat)
                case atStart => exact ⟨0, by omega, rfl, fun j hj => by omega⟩
                case round =>
                  obtain ⟨j, hj, rfl, hall⟩ := hrel
                  have HAl := Lib.hid hall
                  clear hall
                  rw [← hn.out] at hj
                  rcases Nat.lt_or_ge j n with g | g
                  · have hd3 : decide ((j : Int) < (n : Int)) = true := decide_eq_true (by omega)
                    have hcell := (Hr.out (by rw [← hn.out]; omega)).2 j (by rw [← hn.out]; exact g)
                    have HFt := Lib.hid (show RetQ 28 #[.int .i64 (m.path.getD j 0), .int .i64 6] (.bool (fitB 6 (m.path.getD j 0))) from fits_ret (m.path.getD j 0) 6 (by omega))
                    obtain ⟨x, hx⟩ : ∃ x, x = m.path.getD j 0 := ⟨_, rfl⟩
                    rw [← hx] at hcell HFt
                    have Hx := Lib.hid hx
                    obtain ⟨fb, hfb⟩ : ∃ fb, fb = fitB 6 x := ⟨_, rfl⟩
                    rw [← hfb] at HFt
                    have Hfb := Lib.hid hfb
                    clear hx hfb
                    cases fb with
                    | true =>
                      go_wp2_with (go_at_call 28; (with_reducible refine (HFt.out.go _).mono ?_); rintro e wy ⟨rfl, rfl⟩)
                      go_round
                      case rel => exact ⟨j + 1, by rw [← hn.out]; omega, by go_num, fun i hi => by
                        rcases Nat.lt_or_ge i j with h | h
                        · exact HAl.out i h
                        · obtain rfl : i = j := by omega
                          rw [← Hx.out]; exact Hfb.out.symm⟩
                      case measure => simp [intOf]; omega
                    | false =>
                      have HX1 := Lib.hid (show X = 1 by
                        rw [HXe.out]; unfold chk6; rw [if_neg (by have := HDM2.out; omega), HNo.out, if_neg (by simp), if_neg HK11.out, if_neg HN32.out, if_neg]
                        intro hall
                        rw [List.all_eq_true] at hall
                        have := hall _ (List.getElem_mem (l := m.path) (n := j) (by rw [← hn.out]; exact g))
                        have he : m.path[j]'(by rw [← hn.out]; exact g) = x := by rw [Hx.out, List.getD_eq_getElem?_getD, List.getElem?_eq_getElem (by rw [← hn.out]; exact g)]; rfl
                        rw [he, ← Hfb.out] at this
                        exact absurd this (by decide))
                      go_wp2_with (go_at_call 28; (with_reducible refine (HFt.out.go _).mono ?_); rintro e wy ⟨rfl, rfl⟩)
                      go_ret
                      exact ⟨ret_lit (k := 1) HX1.out, HB3.out⟩
                  · obtain rfl : j = n := by omega
                    have HX1 := Lib.hid (show X = 0 by
                      rw [HXe.out]; unfold chk6; rw [if_neg (by have := HDM2.out; omega), HNo.out, if_neg (by simp), if_neg HK11.out, if_neg HN32.out, if_pos]
                      rw [List.all_eq_true]
                      intro y hy
                      obtain ⟨i, hi, rfl⟩ := List.mem_iff_getElem.1 hy
                      have := HAl.out i (by rw [hn.out]; exact hi)
                      rwa [List.getD_eq_getElem?_getD, List.getElem?_eq_getElem hi] at this)
                    go_wp2_with fail
                    go_ret
                    exact ⟨ret_lit (k := 0) HX1.out, HB3.out⟩
          · have q11 : (m.kind != 11) = true := by rw [← hkd]; simp [h11]
            rcases Nat.eq_zero_or_pos n with h0 | h0
            · have HK11 := Lib.hid (show ¬ (m.kind ≠ 11 ∧ 0 < m.path.length) by rw [← hn.out]; omega)
              subst h0
              clear h11 hkd
              have HX1 := Lib.hid (show X = 0 by
                have hpz : m.path = [] := List.eq_nil_of_length_eq_zero hn.out.symm
                rw [HXe.out]; unfold chk6; rw [if_neg (by have := HDM2.out; omega), HNo.out, if_neg (by simp), if_neg HK11.out, if_neg (by rw [hpz]; simp), if_pos (by rw [hpz]; rfl)])
              go_wp2_with fail
              go_loop [81] (fun iv => iv = .int .i64 0) (fun _ => 0)
              case atStart => exact rfl
              case round =>
                obtain rfl := hrel
                go_wp2_with fail
                go_ret
                exact ⟨ret_lit (k := 0) HX1.out, HB3.out⟩
            · have HX1 := Lib.hid (show X = 1 by rw [HXe.out]; unfold chk6; rw [if_neg (by have := HDM2.out; omega), HNo.out, if_neg (by simp), if_pos ⟨by rw [← hkd]; exact h11, by rw [← hn.out]; exact h0⟩])
              clear h11 hkd
              go_wp2_with fail
              go_ret
              exact ⟨ret_lit (k := 1) HX1.out, HB3.out⟩

end Go.Proofs.Ytcdcklkbjfhhnaa
