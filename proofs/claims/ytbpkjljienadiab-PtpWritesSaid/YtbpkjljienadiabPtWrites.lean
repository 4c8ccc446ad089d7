/- PtpWrites. -/
import Derived.Test.YtbpkjljienadiabPtRef6
import Derived.Test.YtbpkjljienadiabPtUnlike
import Derived.Test.YtbpkjljienadiabPtForm
namespace Go.Proofs.Ytbpkjljienadiab
open Go.RowKit Go.Joins

theorem bnil (w : World) : BArg w (.slice none 0 0) [] := ⟨by intro x hx; simp at hx, .inl ⟨rfl, none, 0, rfl, fun _ => rfl⟩⟩
theorem same_nil (w : World) : Calls Try.prog 13 #[.slice none 0 0, .slice none 0 0] w fun e w' => e = .returned (.bool true) ∧ w = w' := same_any (bnil w) (bnil w) true (by decide)

theorem writes_long (m : Mg) (p : Option Addr) (n c : Nat) (w : World) (h : 60 < n) :
    Calls Try.prog 3 #[MV m (.slice p n c)] w fun e w' => e = .returned (.bool true) ∧ Below w.heap.size w w' := by
  have HH := head_ret
  have HX0 : Hid (Boxed (w.alloc (.cells (MC m (.slice p n c)) 28)) w.heap.size m (.slice p n c)) := Lib.hid (heap_alloc_new w _)
  unfold MV
  have hd1 : decide ((60 : Int) < (n : Int)) = true := decide_eq_true (by omega)
  clear h
  go_enter Try.func3, Try.ntmps3
  go_wp2_with (go_at_call 8; (with_reducible refine (HH.go _).mono ?_); rintro e w1 ⟨rfl, hb⟩; have c15 := (HX0.out.below hb).c15; have HB := Lib.hid (bTr (bAl (bRef w) _) hb); clear hb)
  go_ret
  exact ⟨rfl, HB.out⟩

set_option maxRecDepth 100000 in
set_option maxHeartbeats 1000000 in
theorem writes_bad (m : Mg) (p : Option Addr) (n c x : Nat) (w : World) (h : n ≤ 60) (hx : ((x : Int) != 0) = true)
    (HE : Hid (∀ wx, Below w.heap.size w wx → Calls Try.prog 9 #[.agg (MC m (.slice p n c))] wx fun e w' => e = .returned (.tuple #[.slice none 0 0, .int .i64 (x : Int)]) ∧ Below wx.heap.size wx w'))
    (HC : Hid (∀ wx, Below w.heap.size w wx → Calls Try.prog 12 #[.agg (MC m (.slice p n c))] wx fun e w' => e = .returned (.int .i64 (x : Int)) ∧ Below wx.heap.size wx w'))
    (HR : Hid (∀ wx, Below w.heap.size w wx → Calls Try.prog 10 #[.agg (MC m (.slice p n c))] wx fun e w' => e = .returned (.tuple #[.slice none 0 0, .int .i64 (x : Int)]) ∧ Below wx.heap.size wx w')) :
    Calls Try.prog 3 #[MV m (.slice p n c)] w fun e w' => e = .returned (.bool true) ∧ Below w.heap.size w w' := by
  have HH := head_ret
  have HX0 : Hid (Boxed (w.alloc (.cells (MC m (.slice p n c)) 28)) w.heap.size m (.slice p n c)) := Lib.hid (heap_alloc_new w _)
  unfold MV
  have hd1 : decide ((60 : Int) < (n : Int)) = false := decide_eq_false (by omega)
  clear h
  have HP := plain_mc m p n c
  go_enter Try.func3, Try.ntmps3
  go_wp2_with (first
    | ((with_reducible refine at_loadM ?_); refine wpList_loadMG rfl _ rfl w.heap.size rfl (MC m (.slice p n c)) _ HX.out rfl ?_)
    | (go_at_call 8; (with_reducible refine (HH.go _).mono ?_); rintro e w1 ⟨rfl, hb⟩; have HX := Lib.hid (HX0.out.below hb); have c15 := HX.out.c15; have HB := Lib.hid (bTr (bAl (bRef w) _) hb); clear hb)
    | (go_at_call 9; (with_reducible refine (HE.out _ HB.out).mono ?_); rintro e w2 ⟨rfl, hb⟩; replace HX := Lib.hid (HX.out.below hb); replace HB := Lib.hid (bTr HB.out hb); clear hb)
    | (go_at_call 11; (with_reducible refine (HP.go _).mono ?_); rintro e w3 ⟨rfl, hb⟩; replace HX := Lib.hid (HX.out.below hb); replace HB := Lib.hid (bTr HB.out hb); clear hb)
    | (go_at_call 10; (with_reducible refine (HR.out _ HB.out).mono ?_); rintro e w4 ⟨rfl, hb⟩; replace HX := Lib.hid (HX.out.below hb); replace HB := Lib.hid (bTr HB.out hb); clear hb)
    | (go_at_call 12; (with_reducible refine (HC.out _ HB.out).mono ?_); rintro e w5 ⟨rfl, hb⟩; replace HX := Lib.hid (HX.out.below hb); replace HB := Lib.hid (bTr HB.out hb); clear hb)
    | (go_at_call 13; (with_reducible refine (same_nil _).mono ?_); rintro e w6 ⟨rfl, rfl⟩))
  go_ret
  exact ⟨rfl, HB.out⟩

/-- What holds of the world between the calls. -/
def WrM (w : World) (g : Nat) (m : Mg) (v v7 : Value) (W : World) : Prop :=
  Boxed W w.heap.size m v ∧ Boxed W g m v7 ∧ LArg W v7 m.path ∧ Below w.heap.size w W
theorem WrM.call {w W W' : World} {g : Nat} {m : Mg} {v v7 : Value} (h : WrM w g m v v7 W) (hb : Below W.heap.size W W') : WrM w g m v v7 W' :=
  ⟨h.1.below hb, h.2.1.below hb, h.2.2.1.below hb, bTr h.2.2.2 hb⟩
theorem WrM.drew {w W : World} {g : Nat} {m : Mg} {v v7 : Value} (h : WrM w g m v v7 W) : WrM w g m v v7 W.drew := h.call (bDr1 (bRef W))

set_option maxRecDepth 100000 in
set_option maxHeartbeats 4000000 in
theorem writes_ok (m : Mg) (p : Option Addr) (n c : Nat) (tx : List Nat) (w : World) (h : n ≤ 60) (htl : Hid (tx.length < 140737488355328)) (hmp : m.path.length ≤ 140737488355328)
    (hA : Hid (LArg w (.slice p n c) m.path)) (hd : Hid (dres tx = (0, m)))
    (HE : Hid (∀ wx, Below w.heap.size w wx → Calls Try.prog 9 #[.agg (MC m (.slice p n c))] wx fun e w' => ∃ v, e = .returned (.tuple #[v, .int .i64 0]) ∧ OwnB wx w' v tx))
    (HC : Hid (∀ wx, Below w.heap.size w wx → Calls Try.prog 12 #[.agg (MC m (.slice p n c))] wx fun e w' => e = .returned (.int .i64 0) ∧ Below wx.heap.size wx w'))
    (HR : Hid (∀ wx, Below w.heap.size w wx → Calls Try.prog 10 #[.agg (MC m (.slice p n c))] wx fun e w' => ∃ v, e = .returned (.tuple #[v, .int .i64 0]) ∧ OwnB wx w' v tx)) :
    Calls Try.prog 3 #[MV m (.slice p n c)] w fun e w' => e = .returned (.bool true) ∧ Below w.heap.size w w' := by
  have HH := head_ret
  have HX0 : Hid (Boxed (w.alloc (.cells (MC m (.slice p n c)) 28)) w.heap.size m (.slice p n c)) := Lib.hid (heap_alloc_new w _)
  unfold MV
  have hd1 : decide ((60 : Int) < (n : Int)) = false := decide_eq_false (by omega)
  clear h
  have HP := plain_mc m p n c
  go_enter Try.func3, Try.ntmps3
  go_wp2_with (first
    | ((with_reducible refine at_loadM ?_); refine wpList_loadMG rfl _ rfl w.heap.size rfl (MC m (.slice p n c)) _ HX.out rfl ?_)
    | (go_at_call 8; (with_reducible refine (HH.go _).mono ?_); rintro e w1 ⟨rfl, hb⟩; have HX := Lib.hid (HX0.out.below hb); have c15 := HX.out.c15; have HB := Lib.hid (bTr (bAl (bRef w) _) hb); clear hb)
    | (go_at_call 9; (with_reducible refine (HE.out _ HB.out).mono ?_); rintro e w2 ⟨v2, rfl, hown⟩; have HO := Lib.hid hown.arg; have hb := hown.bel; replace HX := Lib.hid (HX.out.below hb); replace HB := Lib.hid (bTr HB.out hb); clear hb hown)
    | (go_at_call 11; (with_reducible refine (HP.go _).mono ?_); rintro e w3 ⟨rfl, hb⟩; replace HX := Lib.hid (HX.out.below hb); replace HO := Lib.hid (HO.out.below hb); replace HB := Lib.hid (bTr HB.out hb); clear hb)
    | (go_at_call 10; (with_reducible refine (HR.out _ HB.out).mono ?_); rintro e w4 ⟨v4, rfl, hown⟩; have HQ := Lib.hid hown.arg; have hb := hown.bel; replace HX := Lib.hid (HX.out.below hb); replace HO := Lib.hid (HO.out.below hb); replace HB := Lib.hid (bTr HB.out hb); clear hb hown)
    | (go_at_call 12; (with_reducible refine (HC.out _ HB.out).mono ?_); rintro e w5 ⟨rfl, hb⟩; replace HX := Lib.hid (HX.out.below hb); replace HO := Lib.hid (HO.out.below hb); replace HQ := Lib.hid (HQ.out.below hb); replace HB := Lib.hid (bTr HB.out hb); clear hb)
    | (go_at_call 13; (with_reducible refine (same_any HO.out HQ.out true (decide_eq_true rfl)).mono ?_); rintro e w6 ⟨rfl, rfl⟩)
    | (go_at_call 14; (with_reducible refine (decode_any HO.out htl.out).mono ?_); rintro e w7 hdec; rw [hd.out] at hdec; obtain ⟨p7, n7, c7, rfl, hb, harg⟩ := hdec; have HA7 := Lib.hid (harg.below (bAl (bRef w7) (.cells (MC m (.slice p7 n7 c7)) 28))); replace HX := Lib.hid (HX.out.below (bAl hb (.cells (MC m (.slice p7 n7 c7)) 28))); replace HB := Lib.hid (bAl (bTr HB.out hb) (.cells (MC m (.slice p7 n7 c7)) 28)); clear hb harg)
    | ((with_reducible refine at_storeM ?_); refine wpList_storeNM (w := w7) rfl _ _ rfl _ rfl (MC m (.slice p7 n7 c7)) _ rfl rfl (MC_one _ _ _ _) rfl rfl ?_))
  have H0 : WrM w w7.heap.size m (.slice p n c) (.slice p7 n7 c7) (w7.alloc (.cells (MC m (.slice p7 n7 c7)) 28)) := ⟨HX.out, heap_alloc_new w7 _, HA7.out, HB.out⟩
  obtain ⟨g7, hg7⟩ : ∃ g, g = w7.heap.size := ⟨_, rfl⟩
  rw [← hg7] at H0 ⊢
  have KP : ∀ W, WrM w g7 m (.slice p n c) (.slice p7 n7 c7) W → Calls Try.prog 11 #[.agg (MC m (.slice p7 n7 c7))] W fun e W' => e = .returned (.agg (MC m (.slice p7 n7 c7))) ∧ WrM w g7 m (.slice p n c) (.slice p7 n7 c7) W' :=
    fun W k => ((plain_mc m p7 n7 c7).go W).mono fun e W' hh => ⟨hh.1, k.call hh.2⟩
  have KQ : ∀ W, WrM w g7 m (.slice p n c) (.slice p7 n7 c7) W → Calls Try.prog 11 #[.agg (MC m (.slice p n c))] W fun e W' => e = .returned (.agg (MC m (.slice p n c))) ∧ WrM w g7 m (.slice p n c) (.slice p7 n7 c7) W' :=
    fun W k => ((plain_mc m p n c).go W).mono fun e W' hh => ⟨hh.1, k.call hh.2⟩
  have KT : ∀ W, WrM w g7 m (.slice p n c) (.slice p7 n7 c7) W → Calls Try.prog 15 #[.agg (MC m (.slice p7 n7 c7)), .agg (MC m (.slice p n c))] W fun e W' => e = .returned (.bool true) ∧ WrM w g7 m (.slice p n c) (.slice p7 n7 c7) W' :=
    fun W k => (same_yes m (.slice p7 n7 c7) (.slice p n c) W hmp k.2.2.1 (hA.out.below k.2.2.2)).mono fun e W' hh => ⟨hh.1, k.call hh.2⟩
  clear HX HO HQ HB HX0 HH HP HA7 c15 hd1 hd htl HE HC HR hg7
  refine wp_region_held_drew (S := WrM w g7 m (.slice p n c) (.slice p7 n7 c7)) (by kernel_rfl) H0.drew (fun hT => ?_)
  generalize World.drew _ = wd at hT ⊢
  refine hTake (i := 0) (k := 48) (v := .int .i64 0) rfl rfl (by kernel_rfl) (by kernel_rfl) (by kernel_rfl) (fun _ _ _ h => h) (yieldsIf_val (by rfl) (by intro W; go_simp)) hT ?_
  simp only [List.setIfInBounds_toArray, List.set_cons_zero, List.set_cons_succ]
  refine hTake (i := 1) (k := 49) (v := .bool true) rfl rfl (by kernel_rfl) (by kernel_rfl) (by kernel_rfl) (fun _ _ _ h => h) (yieldsIf_val (by rfl) (by intro W; go_simp)) hT ?_
  simp only [List.setIfInBounds_toArray, List.set_cons_zero, List.set_cons_succ]
  refine hTake (i := 2) (k := 50) (v := .bool true) rfl rfl (by kernel_rfl) (by kernel_rfl) (by kernel_rfl) (fun _ _ _ h => h) (yieldsIf_val (by rfl) (by intro W; go_simp)) hT ?_
  simp only [List.setIfInBounds_toArray, List.set_cons_zero, List.set_cons_succ]
  refine hTake (i := 3) (k := 51) rfl rfl (by kernel_rfl) (by kernel_rfl) (by kernel_rfl) (fun _ _ _ h => h) (yieldsIf_loadM (by rfl) _ rfl g7 rfl m (.slice p7 n7 c7) (fun _ k => k.2.1)) hT ?_
  simp only [List.setIfInBounds_toArray, List.set_cons_zero, List.set_cons_succ]
  refine hTake (i := 5) (k := 53) rfl rfl (by kernel_rfl) (by kernel_rfl) (by kernel_rfl) (fun _ _ _ h => h) (yieldsIf_loadM (by rfl) _ rfl w.heap.size rfl m (.slice p n c) (fun _ k => k.1)) hT ?_
  simp only [List.setIfInBounds_toArray, List.set_cons_zero, List.set_cons_succ]
  refine hCall (i := 4) (k := 52) (by kernel_rfl) rfl rfl (by rfl) 11 #[.agg (MC m (.slice p7 n7 c7))] (by intro W; go_simp) (.agg (MC m (.slice p7 n7 c7))) KP hT (fun wb hTb => ?_)
  simp only [List.setIfInBounds_toArray, List.set_cons_zero, List.set_cons_succ]
  refine hCall (i := 6) (k := 54) (by kernel_rfl) rfl rfl (by rfl) 11 #[.agg (MC m (.slice p n c))] (by intro W; go_simp) (.agg (MC m (.slice p n c))) KQ hTb (fun wc hTc => ?_)
  simp only [List.setIfInBounds_toArray, List.set_cons_zero, List.set_cons_succ]
  refine hCall (i := 7) (k := 55) (by kernel_rfl) rfl rfl (by rfl) 15 #[.agg (MC m (.slice p7 n7 c7)), .agg (MC m (.slice p n c))] (by intro W; go_simp) (.bool true) KT hTc (fun we hTe => ?_)
  simp only [List.setIfInBounds_toArray, List.set_cons_zero, List.set_cons_succ]
  refine hTake (i := 8) (k := 56) (v := .bool true) rfl rfl (by kernel_rfl) (by kernel_rfl) (by kernel_rfl) (fun _ _ _ h => h) (yieldsIf_val (by rfl) (by intro W; go_simp)) hTe ?_
  simp only [List.setIfInBounds_toArray, List.set_cons_zero, List.set_cons_succ]
  refine hTake (i := 9) (k := 2) (v := .bool true) rfl rfl (by kernel_rfl) (by kernel_rfl) (by kernel_rfl) (fun _ _ _ h => h) (yieldsIf_val (by rfl) (by intro W; go_simp)) hTe ?_
  simp only [List.setIfInBounds_toArray, List.set_cons_zero, List.set_cons_succ]
  refine wpAnyH_done (by kernel_rfl) ?_ _
  have HT := Lib.hid hTe.2.2.2
  clear KP KQ KT H0 hT hTb hTc hTe
  go_wp2_with fail
  go_ret
  exact ⟨rfl, HT.out⟩

theorem writes_walk (m : Mg) (u : Value) (w : World) (hw : m.Wf) (hu : LArg w u m.path) :
    Calls Try.prog 3 #[MV m u] w fun e w' => e = .returned (.bool true) ∧ Below w.heap.size w w' := by
  have ha := hu
  obtain ⟨p, c, rfl⟩ := hu.slice
  rcases Nat.lt_or_ge 60 m.path.length with hn | hn
  · exact writes_long m p _ c w hn
  have HC : ∀ wx, Below w.heap.size w wx → Calls Try.prog 12 #[.agg (MC m (.slice p m.path.length c))] wx fun e w' => e = .returned (.int .i64 (m.chk : Int)) ∧ Below wx.heap.size wx w' :=
    fun wx hb => check_any m _ wx hw (ha.below hb) (by omega)
  have HE : ∀ wx, Below w.heap.size w wx → Calls Try.prog 9 #[.agg (MC m (.slice p m.path.length c))] wx (EncPost wx m) :=
    fun wx hb => encode_any m _ wx hw (ha.below hb) (by omega)
  have HR : ∀ wx, Below w.heap.size w wx → Calls Try.prog 10 #[.agg (MC m (.slice p m.path.length c))] wx (EncPost wx m) :=
    fun wx hb => rencode_any m _ wx hw (ha.below hb)
  by_cases h0 : m.chk = 0
  · have hr := Mg.chk_zero.1 h0
    rw [h0] at HC
    have good : ∀ {wx : World} {e : Ending} {w' : World}, EncPost wx m e w' → ∃ v, e = .returned (.tuple #[v, .int .i64 0]) ∧ OwnB wx w' v m.text := fun hh => by
      rcases hh with ⟨_, v, h1, h2⟩ | ⟨h1, _⟩
      · exact ⟨v, h1, h2⟩
      · exact absurd h0 h1
    exact writes_ok m p _ c m.text w hn (Lib.hid (by have := m.text_len hr; omega)) (by omega) (Lib.hid ha) (Lib.hid (dres_text hr hw h0))
      (Lib.hid fun wx hb => (HE wx hb).mono fun e w' hh => good hh) (Lib.hid HC) (Lib.hid fun wx hb => (HR wx hb).mono fun e w' hh => good hh)
  · have bad : ∀ {wx : World} {e : Ending} {w' : World}, EncPost wx m e w' → e = .returned (.tuple #[.slice none 0 0, .int .i64 (m.chk : Int)]) ∧ Below wx.heap.size wx w' := fun hh => by
      rcases hh with ⟨h1, _⟩ | ⟨_, h2, h3⟩
      · exact absurd h1 h0
      · exact ⟨h2, h3⟩
    exact writes_bad m p _ c m.chk w hn (by rw [bne_iff_ne]; omega) (Lib.hid fun wx hb => (HE wx hb).mono fun e w' hh => bad hh) (Lib.hid HC) (Lib.hid fun wx hb => (HR wx hb).mono fun e w' hh => bad hh)

end Go.Proofs.Ytbpkjljienadiab
