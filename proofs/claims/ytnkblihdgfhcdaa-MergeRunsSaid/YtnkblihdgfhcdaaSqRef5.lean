/- The reference's In: a number ahead. -/
import Derived.Test.YtnkblihdgfhcdaaSqRef4
namespace Go.Proofs.Ytnkblihdgfhcdaa
open Go.RowKit Go.Joins

/-- What has come, from a later number's view. -/
def tkH (D len : Int) (xs : List Int) : List Int := (xs.filter (fun x => decide (x + D < len))).map (fun x => x + D)
theorem tkH_take {D len : Int} {xs : List Int} {k : Nat} (h : k < xs.length) : tkH D len (xs.take (k + 1)) = tkH D len (xs.take k) ++ (if xs.getD k 0 + D < len then [xs.getD k 0 + D] else []) := by
  have e : xs.take (k + 1) = xs.take k ++ [xs.getD k 0] := by
    rw [List.take_succ_eq_append_getElem h]; simp [List.getD_eq_getElem?_getD, h]
  rw [e]
  unfold tkH
  rw [List.filter_append, List.map_append]
  congr 1
  generalize xs.getD k 0 = y
  split
  · rename_i hc
    simp [hc]
  · rename_i hc
    simp
    omega
theorem tkH_len (D len : Int) (xs : List Int) : (tkH D len xs).length ≤ xs.length := by
  unfold tkH
  rw [List.length_map]
  exact List.length_filter_le _ _
/-- How many are lost, behind j of them. -/
def lostF (had : List Int) (lo lost : Int) : Nat → Int
  | 0 => lost
  | j + 1 => if lo + (j : Int) ∈ had then lostF had lo lost j else wrap64 (lostF had lo lost j + 1)
def Tk1 (w : World) (r z : RQ) (pv : Value) (D : Int) (n : Nat) (vv kv : Value) (wr : World) : Prop :=
  ∃ (k : Nat) (v : Value), kv = .int .i64 (k : Int) ∧ vv = v ∧ k ≤ n ∧ OI (w.heap.size + 2) wr v (0 :: tkH D r.len (r.had.take k)) ∧ RB wr w.heap.size r pv ∧ RB wr (w.heap.size + 1) z (.slice none 0 0) ∧ Below w.heap.size w wr
def Tk2 (w : World) (r z : RQ) (pv v : Value) (xs : List Int) (lo : Int) (D : Nat) (xv : Value) (wr : World) : Prop :=
  ∃ j : Nat, xv = .int .i64 (lo + (j : Int)) ∧ j ≤ D ∧ OI (w.heap.size + 2) wr v xs ∧ RB wr w.heap.size { r with lost := lostF r.had lo r.lost j } pv ∧ RB wr (w.heap.size + 1) z (.slice none 0 0) ∧ Below w.heap.size w wr
set_option maxRecDepth 20000 in
set_option maxHeartbeats 8000000 in
theorem rin_taken (r : RQ) (p : Option Addr) (n c : Nat) (now seq : Int) (w : World) (hh : LA w (.slice p n c) r.had) (h0 : 0 ≤ seq) (h1 : seq ≤ 65535) (D : Nat) (ha : r.any = false) (hl : LongNo r now) (hD : AheadIs seq r.last (D : Int)) (hw : r.way = 0) (hl1 : 1 ≤ r.len ∧ r.len ≤ 64) (hr : (D : Int) < r.len ∧ 0 < (D : Int)) (hn : n ≤ 500) (hb : ∀ x ∈ r.had, 0 ≤ x ∧ x < 64) :
    Calls Try.prog 24 #[RV r (.slice p n c), .int .i64 now, .int .i64 seq] w (InPost w (({ r with last := seq, had := 0 :: tkH (D : Int) r.len r.had, lost := lostF r.had (r.len - (D : Int)) r.lost D } : RQ).took 0 now) 0 0) := by
  obtain ⟨Dz, hDz⟩ : ∃ Dz : Int, (D : Int) = Dz := ⟨_, rfl⟩
  have HDz := Lib.hid hDz
  rw [hDz] at hD hr ⊢
  clear hDz
  have HH := Lib.hid hh
  obtain ⟨p', c', e⟩ := hh.slice
  have hlen : r.had.length = n := by injection e with _ e _; exact e.symm
  have HX := Lib.hid (fun W (hW : LA W (.slice p n c) r.had) x => has_ret p n c r.had x W hW hlen (by omega))
  have HLen := Lib.hid hlen
  have HN := Lib.hid hn
  have HBd := Lib.hid hb
  have HL1 := Lib.hid hl1
  have HRr := Lib.hid hr
  obtain ⟨way, len, reset, any, last, had, when, c0, c1, c2, c3, resets, lost⟩ := r
  simp only at ha hl hD hw hl1 hr HH HX HLen HBd HL1 HRr
  subst ha
  subst hw
  have d1 : decide (seq < 0) = false := decide_eq_false (by omega)
  have d2 : decide (65535 < seq) = false := decide_eq_false (by omega)
  have e1 : wrap64 (-len) = -len := by unfold wrap64; omega
  have e2 : wrap64 (len - Dz) = len - Dz := by unfold wrap64; omega
  have d3 : decide (len ≤ Dz) = false := decide_eq_false (by omega)
  have d4 : decide (Dz ≤ -len) = false := decide_eq_false (by omega)
  have d5 : decide (Dz ≤ 0) = false := decide_eq_false (by omega)
  have HL := Lib.hid hl
  have HD := Lib.hid hD
  obtain ⟨R, hR⟩ : ∃ R : RQ, R = ⟨0, len, reset, false, last, had, when, c0, c1, c2, c3, resets, lost⟩ := ⟨_, rfl⟩
  have HRdef := Lib.hid hR
  obtain ⟨Z, hZ⟩ : ∃ Z : RQ, Z = ⟨0, 0, 0, false, 0, [], 0, 0, 0, 0, 0, 0, 0⟩ := ⟨_, rfl⟩
  have HB0 : Hid (RB (((w.alloc (.cells (RA ⟨0, len, reset, false, last, had, when, c0, c1, c2, c3, resets, lost⟩ (.slice p n c)) 39)).alloc (.cells (RA ⟨0, 0, 0, false, 0, [], 0, 0, 0, 0, 0, 0, 0⟩ (.slice none 0 0)) 39)).alloc (.cells #[.int .i64 0] 3)) w.heap.size R (.slice p n c)) := Lib.hid (by rw [hR]; exact ((bAl (bAl (bRef (w.alloc _)) _) _).block w.heap.size (by simp)).trans (heap_alloc_one' w _))
  have HZ0 : Hid (RB (((w.alloc (.cells (RA ⟨0, len, reset, false, last, had, when, c0, c1, c2, c3, resets, lost⟩ (.slice p n c)) 39)).alloc (.cells (RA ⟨0, 0, 0, false, 0, [], 0, 0, 0, 0, 0, 0, 0⟩ (.slice none 0 0)) 39)).alloc (.cells #[.int .i64 0] 3)) (w.heap.size + 1) Z (.slice none 0 0)) := Lib.hid (by rw [hZ]; exact ((bAl (bRef ((w.alloc _).alloc _)) _).block (w.heap.size + 1) (by simp)).trans (heap_alloc2_new w _ _))
  clear hh h0 h1 hl hD hl1 hr hlen hn e hb hR hZ
  go_enter Try.func24, Try.ntmps24
  go_wp2_with (first
    | (go_at_call 38; (with_reducible refine (HL.out.go _).mono ?_); rintro e xl ⟨rfl, rfl⟩)
    | (go_at_call 39; (with_reducible refine (HD.out.go _).mono ?_); rintro e xa ⟨rfl, rfl⟩))
  rw [e1]
  go_loopw [11, 43] (fun vv kv wr => Tk1 w R Z (.slice p n c) Dz n vv kv wr) (fun _ kv _ => n - (intOf kv).toNat)
  case atStart => exact ⟨0, _, rfl, rfl, by omega, OI.one (heap_alloc3_new w _ _ _) (by omega), HB0.out, HZ0.out, bAl (bAl (bAl (bRef w) _) _) _⟩
  case round =>
    clear HB0 HZ0
    obtain ⟨k, v, rfl, rfl, hk, ho, hb, hz, hbel⟩ := hrel
    have HO := Lib.hid ho
    have HB := Lib.hid hb
    have HZ := Lib.hid hz
    have HBel := Lib.hid hbel
    have hn5 := HN.out
    have HRl : R.len = len := by rw [HRdef.out]
    have HRh : R.had = had := by rw [HRdef.out]
    have q1 := hb.cells.1.2.1
    rw [HRl] at q1
    obtain ⟨pq, cq, rfl⟩ := ho.form
    have hh := HH.out.below hbel
    have hlo : ((0 : Int) :: tkH Dz R.len (R.had.take k)).length ≤ 501 := by
      have := tkH_len Dz R.len (R.had.take k)
      rw [List.length_take] at this
      rw [List.length_cons]
      omega
    have HLO := Lib.hid hlo
    clear ho hb hz hbel hlo
    rcases Nat.lt_or_ge k n with g | g
    · have hd : decide ((k : Int) < (n : Int)) = true := decide_eq_true (by omega)
      obtain ⟨hb', o, rfl, -, hlt, hc⟩ := hh.at g
      have hx := HBd.out (had.getD k 0) (by rw [List.getD_eq_getElem?_getD, List.getElem?_eq_getElem (by have := HLen.out; omega)]; exact List.getElem_mem _)
      have hD64 := HRr.out
      have hl64 := HL1.out
      have hst := tkH_take (D := Dz) (len := R.len) (xs := R.had) (k := k) (by rw [HRh]; have := HLen.out; omega)
      rw [HRh, HRl] at hst
      have e3 : wrap64 (had.getD k 0 + Dz) = had.getD k 0 + Dz := by unfold wrap64; omega
      by_cases hxd : had.getD k 0 + Dz < len
      · have d6 : decide (had.getD k 0 + Dz < len) = true := decide_eq_true hxd
        rw [if_pos hxd] at hst
        have HST := Lib.hid hst
        clear hst hxd hx hD64 hl64 hh
        generalize had.getD k 0 = x at *
        have hwr2 : w.heap.size + 2 ≤ wr.heap.size := by have := HZ.out.lt; omega
        have HW2 := Lib.hid hwr2
        clear hwr2
        go_wp2_with ((with_reducible refine at_app3 ?_); refine wpList_appI rfl _ _ rfl (w.heap.size + 2) _ _ _ [x + Dz] rfl rfl (HO.out.below (bAl (bRef wr) _)) (la_one _ _ (heap_alloc_one' wr _)) (by simp) (by have := HW2.out; simp; omega) (by have := HLO.out; simp at this ⊢; omega) ?_; intro v4 w4 ho hb; have HO4 := Lib.hid ho; have HB4 := Lib.hid ((hb.block w.heap.size (by omega)).trans ((HB.out.below (bAl (bRef wr) _)))); have HZ4 := Lib.hid ((hb.block (w.heap.size + 1) (by omega)).trans (HZ.out.below (bAl (bRef wr) _))); have HBel4 := Lib.hid ((HBel.out.trans (Below.mono (bAl (bRef wr) _) HBel.out.size)).trans (hb.mono (by omega))); clear ho hb)
        go_roundw
        case rel => exact ⟨k + 1, v4, by go_num, rfl, by omega, by rw [HRh, HRl, HST.out]; have := HO4.out; rw [HRh, HRl] at this; simpa using this, HB4.out, HZ4.out, HBel4.out⟩
        case measure => simp [intOf]; omega
      · have d6 : decide (had.getD k 0 + Dz < len) = false := decide_eq_false hxd
        rw [if_neg hxd, List.append_nil] at hst
        have HST := Lib.hid hst
        clear hst hxd hx hD64 hl64 hh
        generalize had.getD k 0 = x at *
        go_wp2_with fail
        go_roundw
        case rel => exact ⟨k + 1, _, by go_num, rfl, by omega, by rw [HRh, HRl, HST.out]; have := HO.out; rw [HRh, HRl] at this; exact this, HB.out, HZ.out, HBel.out⟩
        case measure => simp [intOf]; omega
    · obtain rfl : k = n := by omega
      have hd : decide ((k : Int) < (k : Int)) = false := decide_eq_false (by omega)
      have HTK : Hid (R.had.take k = had) := Lib.hid (by rw [HRh]; exact List.take_of_length_le (by have := HLen.out; omega))
      generalize ((0 : Int) :: tkH Dz R.len (R.had.take k)).length = L at *
      have ho2 := HO.out
      rw [HTK.out, HRl] at ho2
      have HO2 := Lib.hid ho2
      have hD64 := HRr.out
      have hl64 := HL1.out
      obtain ⟨lo, hlo⟩ : ∃ lo, len - Dz = lo := ⟨_, rfl⟩
      replace e2 : wrap64 (len - Dz) = lo := by rw [e2, hlo]
      rw [show lostF had (len - Dz) lost D = lostF had lo lost D by rw [hlo]]
      have HLo := Lib.hid (show 1 ≤ lo ∧ lo + Dz = len by omega)
      clear ho2 hh hlo hD64 hl64
      go_wp2_with fail
      rw [e2]
      go_loopw [14] (fun xv wr => Tk2 w R Z (.slice p k c) (.slice pq L cq) (0 :: tkH Dz len had) lo D xv wr) (fun xv _ => (lo + Dz - intOf xv).toNat)
      case atStart => exact ⟨0, by simp, by omega, HO2.out, HB.out, HZ.out, HBel.out⟩
      case round =>
        clear HO HB HZ HBel HO2 q1
        obtain ⟨j, rfl, hj, ho, hb, hz, hbel⟩ := hrel
        have HO := Lib.hid ho
        have HZ := Lib.hid hz
        have HBel := Lib.hid hbel
        have hb2 : RB wr w.heap.size ⟨0, len, reset, false, last, had, when, c0, c1, c2, c3, resets, lostF had lo lost j⟩ (.slice p k c) := by
          have := hb
          rw [HRdef.out] at this
          exact this
        have HB := Lib.hid hb2
        obtain ⟨⟨y0, y1, y2, y3, y4, y5, y6, y7, y8, y9, y10, y11, y12⟩, f3, f4, f5, f6, f7, f8, f9, f10, f11, f12⟩ := hb2.cells
        have hdz := HDz.out
        have hlo2 := HLo.out
        have hl64 := HL1.out
        obtain ⟨X, hX⟩ : ∃ X, lo + (j : Int) = X := ⟨_, rfl⟩
        have e5 : wrap64 (X + 1) = X + 1 := by unfold wrap64; omega
        have HXe := Lib.hid hX
        have hlj : lostF had lo lost (j + 1) = if X ∈ had then lostF had lo lost j else wrap64 (lostF had lo lost j + 1) := by rw [← hX]; rfl
        rw [hX]
        have d7 : decide (0 ≤ X) = true := decide_eq_true (by omega)
        have HH2 := HX.out wr (HH.out.below HBel.out) X
        have HNX : Hid (X + 1 = lo + ((j + 1 : Nat) : Int)) := Lib.hid (by omega)
        rcases Nat.lt_or_ge j D with g2 | g2
        · have d6 : decide (X < len) = true := decide_eq_true (by omega)
          have HME : Hid ((lo + Dz - (X + 1)).toNat < (lo + Dz - X).toNat) := Lib.hid (by omega)
          by_cases hm : X ∈ had
          · rw [decide_eq_true hm] at HH2
            rw [if_pos hm] at hlj
            have HLJ := Lib.hid hlj
            have HHx := Lib.hid HH2
            clear hlj hm hX ho hb hz hbel hb2 HH2 hdz hlo2 hl64
            generalize lostF had lo lost j = LJ at *
            go_wp2_with (go_at_call 40; (with_reducible refine HHx.out.mono ?_); rintro e xh ⟨rfl, rfl⟩)
            go_roundw
            case rel => exact ⟨j + 1, by rw [← HNX.out, e5], by omega, HO.out, by rw [HRdef.out]; show RB _ _ (⟨0, len, reset, false, last, had, when, c0, c1, c2, c3, resets, lostF had lo lost (j + 1)⟩ : RQ) _; rw [HLJ.out]; exact HB.out, HZ.out, HBel.out⟩
            case measure => (try rw [e5]); exact HME.out
          · rw [decide_eq_false hm] at HH2
            rw [if_neg hm] at hlj
            have HLJ := Lib.hid hlj
            have HHx := Lib.hid HH2
            clear hlj hm hX ho hb hz hbel hb2 HH2 hdz hlo2 hl64
            generalize lostF had lo lost j = LJ at *
            go_wp2_with (go_at_call 40; (with_reducible refine HHx.out.mono ?_); rintro e xh ⟨rfl, rfl⟩)
            go_roundw
            case rel => exact ⟨j + 1, by rw [← HNX.out, e5], by omega, HO.out.set (by omega), by rw [HRdef.out]; show RB _ _ (⟨0, len, reset, false, last, had, when, c0, c1, c2, c3, resets, lostF had lo lost (j + 1)⟩ : RQ) _; rw [HLJ.out]; exact HB.out.set12 _, HZ.out.other _ (by show w.heap.size + 1 ≠ w.heap.size; omega) _, bSet HBel.out _ (Nat.le_refl _) _⟩
            case measure => (try rw [e5]); exact HME.out
        · obtain rfl : j = D := by omega
          have d6 : decide (X < len) = false := decide_eq_false (by omega)
          have hZr : RB wr (w.heap.size + 1) Z (.slice none 0 0) := HZ.out
          have h5 := (HB.out.set4 seq).set5 (.slice pq L cq) (0 :: tkH Dz len had)
          have z5 := (hZr.other ⟨w.heap.size, 4, none⟩ (by show w.heap.size + 1 ≠ w.heap.size; omega) (.int .i64 seq)).other ⟨w.heap.size, 5, none⟩ (by show w.heap.size + 1 ≠ w.heap.size; omega) (.slice pq L cq)
          have b5 := bSet (bSet HBel.out ⟨w.heap.size, 4, none⟩ (Nat.le_refl _) (.int .i64 seq)) ⟨w.heap.size, 5, none⟩ (Nat.le_refl _) (.slice pq L cq)
          have la5 := (HO.out.set (g := w.heap.size) (i := 4) (x := .int .i64 seq) (by omega)).set (g := w.heap.size) (i := 5) (x := .slice pq L cq) (by omega)
          have HT0 := Lib.hid (TailS.mk h5 z5 b5 la5)
          clear h5 z5 b5 la5 hZr hb hz ho hbel hb2 HH2 hlj hX hdz hlo2 hl64
          go_upto_region 35 with fail
          generalize (wr.setCell ⟨w.heap.size, 4, none⟩ (.int .i64 seq)).setCell ⟨w.heap.size, 5, none⟩ (.slice pq L cq) = W5 at *
          have HT := HT0
          clear HT0 y0 y1 y2 y3 y4 y5 y6 y7 y8 y9 y10 y11 y12 f3 f4 f5 f6 f7 f8 f9 f10 f11 f12 HB HZ HO HBel
          obtain ⟨⟨q0, q1, q2, q3, q4, q5, q6, q7, q8, q9, q10, q11, q12⟩, g3, g4, g5, g6, g7, g8, g9, g10, g11, g12⟩ := HT.out.box.cells
          go_wp2_with (first
            | ((with_reducible refine at_loadR ?_); refine wpList_loadR rfl _ rfl w.heap.size _ _ rfl (((HT.out.box.set7 _).set6 _).set3 _) ?_)
            | ((with_reducible refine at_storeR ?_); refine wpList_storeR rfl _ _ rfl (w.heap.size + 1) _ _ _ _ _ _ rfl rfl (((HT.out.res.other _ (by show w.heap.size + 1 ≠ w.heap.size; omega) _).other _ (by show w.heap.size + 1 ≠ w.heap.size; omega) _).other _ (by show w.heap.size + 1 ≠ w.heap.size; omega) _) ?_))
          refine bodyR rfl (w.heap.size + 1) _ _ _ rfl rfl rfl (setRow_heap _ _ _ _ _ _ (((HT.out.res.other _ (by show w.heap.size + 1 ≠ w.heap.size; omega) _).other _ (by show w.heap.size + 1 ≠ w.heap.size; omega) _).other _ (by show w.heap.size + 1 ≠ w.heap.size; omega) _)) rfl rfl ?_
          have eL : len - Dz = lo := by have := HLo.out; omega
          simp only [eL]
          exact ⟨_, rfl, ((((HT.out.la.set (by omega)).set (by omega)).set (by omega)).row _ (by omega)).la, below_setRow (bSet (bSet (bSet HT.out.bel _ (Nat.le_refl _) _) _ (Nat.le_refl _) _) _ (Nat.le_refl _) _) (by omega) _⟩

end Go.Proofs.Ytnkblihdgfhcdaa
