/- Package sieve: In, of streams without gates and meters. -/
import Derived.Test.YtpdfgdjomlogbabSvPass
namespace Go.Proofs.Ytpdfgdjomlogbab
open Go.RowKit Go.Joins

/-- One more. -/
def bump (f : Fl) (what : Int) : Fl :=
  if what = 0 then { f with c0 := wrap64 (f.c0 + 1) } else if what = 2 then { f with c2 := wrap64 (f.c2 + 1) } else { f with c5 := wrap64 (f.c5 + 1) }
theorem passV_three (f : Fl) (size : Int) : passV f size = 0 ∨ passV f size = 2 ∨ passV f size = 5 := by
  unfold passV
  split
  · exact .inr (.inr rfl)
  · split
    · exact .inr (.inl rfl)
    · exact .inl rfl
theorem passF_st (f : Fl) (size : Int) : (passF f size).st = f.st := by
  unfold passF
  split
  · rfl
  · split <;> rfl
def prioV (f : Fl) (what prio : Int) : Int := if what ≠ 0 then 0 else if f.st.prio ≠ -1 then f.st.prio else prio
/-- What the sieve has behind a frame. -/
def inL (L : List Fl) (i size : Int) : List Fl := if i = -1 then L else (L.set i.toNat (passF (L.getD i.toNat default) size)).set i.toNat (bump (passF (L.getD i.toNat default) size) (passV (L.getD i.toNat default) size))
def inO (oth i : Int) : Int := if i = -1 then wrap64 (oth + 1) else oth
def inE (L : List Fl) (i prio size : Int) : Ending :=
  if i = -1 then .returned (.tuple #[.int .i64 (-1), .int .i64 prio, .bool false, .int .i64 1])
  else .returned (.tuple #[.int .i64 i, .int .i64 (prioV (L.getD i.toNat default) (passV (L.getD i.toNat default) size) prio), .bool false, .int .i64 (passV (L.getD i.toNat default) size)])
theorem findI_lt (L : List Fl) (p v : Int) (d s : M6) : findI L p v d s = -1 ∨ ∃ k : Nat, k < L.length ∧ findI L p v d s = (k : Int) := by
  unfold findI firstI
  cases hf : search (fun k => decide (Fits (L.getD k default).st p v d s)) 0 L.length with
  | none => exact .inl rfl
  | some k =>
    obtain ⟨_, h2, _, _⟩ := search_some _ _ hf
    exact .inr ⟨k, by omega, rfl⟩
set_option maxHeartbeats 2000000 in
theorem in_none {w W : World} {b : Nat} {vv : Value} {L : List Fl} {oth : Int} (h : NS w b vv L oth W) (hl : L.length ≤ 1000) (now p v : Int) (d s : M6) (prio size : Int) (hi : findI L p v d s = -1) :
    Calls Try.prog 10 #[.pointer (some ⟨b, 0, none⟩), .int .i64 now, .int .i64 p, .int .i64 v, MV d, MV s, .int .i64 prio, .int .i64 size] W fun e w' => e = .returned (.tuple #[.int .i64 (-1), .int .i64 prio, .bool false, .int .i64 1]) ∧ NS w b vv L (wrap64 (oth + 1)) w' ∧ ∀ g, TwoB b g W w' := by
  have HN1 := Lib.hid ((h.below (bAl (bRef W) (.cells (MC d) 26))).below (bAl (bRef _) (.cells (MC s) 26)))
  have hB := bAl (bAl (bRef W) (.cells (MC d) 26)) (.cells (MC s) 26)
  have HFI := Lib.hid (fun W' (hb : Below W.heap.size W W') => find_any (h.box.below hb) (h.farg.below hb) hl p v d s)
  rw [hi] at HFI
  have HB := Lib.hid hB
  clear h hi hB
  go_enter Try.func10, Try.ntmps10
  go_wp2_with (go_at_call 12; (with_reducible refine (HFI.out _ HB.out).mono ?_); rintro e w2 ⟨rfl, hb⟩; have HN2 := Lib.hid (HN1.out.below hb); have HBB := Lib.hid (bTr HB.out hb); have b3 := cell_of_row _ _ 3 _ _ _ HN2.out.box; have bf := frozen_of_row _ _ 3 _ _ HN2.out.box; clear hb)
  exact bodyPost_ret (v := .tuple #[.int .i64 (-1), .int .i64 prio, .bool false, .int .i64 1]) (by simp [results, Try.results10, go_sem]) rfl ⟨rfl, HN2.out.others _, fun g => (TwoB.of HBB.out).setb _ _⟩
theorem FA_bump0 (f : Fl) (x : Int) : (FA { f with c0 := x }).toList = (FA f).toList.set 15 (.int .i64 x) := rfl
theorem FA_bump2 (f : Fl) (x : Int) : (FA { f with c2 := x }).toList = (FA f).toList.set 17 (.int .i64 x) := rfl
theorem FA_bump5 (f : Fl) (x : Int) : (FA { f with c5 := x }).toList = (FA f).toList.set 20 (.int .i64 x) := rfl
theorem getD_set (L : List Fl) (k : Nat) (f : Fl) (h : k < L.length) : (L.set k f).getD k default = f := by
  simp [List.getD_eq_getElem?_getD, h]
set_option maxHeartbeats 4000000 in
theorem in_some {w W : World} {b g n cap : Nat} {L : List Fl} {oth : Int} (h : NS w b (.slice (some ⟨g, 0, none⟩) n cap) L oth W) (hn : n = L.length) (hcap : n ≤ cap) (hl : n ≤ 1000) {k : Nat} (hk : k < n) (f : Fl) (hf : L.getD k default = f) (hg : f.st.gate = -1) (hr : f.st.rate = -1) (now p v : Int) (d s : M6) (prio size : Int) (hi : findI L p v d s = (k : Int)) :
    Calls Try.prog 10 #[.pointer (some ⟨b, 0, none⟩), .int .i64 now, .int .i64 p, .int .i64 v, MV d, MV s, .int .i64 prio, .int .i64 size] W fun e w' => e = .returned (.tuple #[.int .i64 (k : Int), .int .i64 (prioV f (passV f size) prio), .bool false, .int .i64 (passV f size)]) ∧ NS w b (.slice (some ⟨g, 0, none⟩) n cap) ((L.set k (passF f size)).set k (bump (passF f size) (passV f size))) oth w' ∧ TwoB b g W w' := by
  have HN1 := Lib.hid ((h.below (bAl (bRef W) (.cells (MC d) 26))).below (bAl (bRef _) (.cells (MC s) 26)))
  have hB := bAl (bAl (bRef W) (.cells (MC d) 26)) (.cells (MC s) 26)
  have HFI := Lib.hid (fun W' (hb : Below W.heap.size W W') => find_any (h.box.below hb) (h.farg.below hb) (by omega) p v d s)
  rw [hi] at HFI
  have HB := Lib.hid hB
  have HPA := Lib.hid (fun W' (hh : NS w b (.slice (some ⟨g, 0, none⟩) n cap) L oth W') => pass_any hh hn hk f hf hg hr now size)
  have HLn := Lib.hid hn
  have hst := passF_st f size
  obtain ⟨f', hf'⟩ : ∃ f', passF f size = f' := ⟨_, rfl⟩
  rw [hf'] at HPA hst ⊢
  have HPR := Lib.hid (show f'.st.prio = f.st.prio by rw [hst])
  have HG := Lib.hid (fun W' (hh : NS w b (.slice (some ⟨g, 0, none⟩) n cap) (L.set k f') oth W') (j : Nat) (hj : j < 21) => (hh.at (by rw [List.length_set]; exact hn) hk j hj).trans (by rw [getD_set L k f' (by omega)]))
  have HPUT := Lib.hid (fun W' (hh : NS w b (.slice (some ⟨g, 0, none⟩) n cap) (L.set k f') oth W') (j : Nat) (hj : j < 21) (u : Value) (f2 : Fl) (h2 : (FA f2).toList = (FA f').toList.set j u) => hh.put (by rw [List.length_set]; exact hn) hk j hj u f2 (by rw [getD_set L k f' (by omega)]; exact h2))
  have hkk : (0 : Int) ≤ (k : Int) := by omega
  rcases passV_three f size with hv | hv | hv
  · rw [hv] at HPA ⊢
    have e1 : bump f' 0 = { f' with c0 := wrap64 (f'.c0 + 1) } := by unfold bump; rw [if_pos rfl]
    rw [e1]
    by_cases hp : f.st.prio = -1
    · have e2 : prioV f 0 prio = prio := by unfold prioV; rw [if_neg (by simp), if_neg (by simp [hp])]
      have d3 : (f.st.prio != -1) = false := by simpa using hp
      rw [e2]
      clear h hi hB hst hf' hv e1 e2 hf hg hr hp
      go_enter Try.func10, Try.ntmps10
      go_wp2_with (first
        | (go_at_call 12; (with_reducible refine (HFI.out _ HB.out).mono ?_); rintro e w2 ⟨rfl, hb⟩; have HN2 := Lib.hid (HN1.out.below hb); have HT2 := Lib.hid (show TwoB b g W w2 from TwoB.of (bTr HB.out hb)); have b0 := cell_of_row _ _ 0 _ _ _ HN2.out.box; clear hb)
        | (go_at_call 19; (with_reducible refine (HPA.out _ HN2.out).mono ?_); rintro e w3 ⟨rfl, hh, ht⟩; have HN3 := Lib.hid hh; have HT3 := Lib.hid (HT2.out.trans ht); clear ht; have cc : w3.cell? ⟨g, k * 21 + 15, none⟩ = some (.int .i64 f'.c0) := HG.out _ hh 15 (by omega); have c10 : w3.cell? ⟨g, k * 21 + 10, none⟩ = some (.int .i64 f.st.prio) := (HG.out _ hh 10 (by omega)).trans (by show some (Value.int .i64 f'.st.prio) = _; rw [HPR.out]); have zz := hh.fz (by rw [List.length_set]; exact HLn.out) (k * 21 + 15); clear hh))
      go_region
      all_goals (
        go_wp2_with fail
        exact bodyPost_ret (v := .tuple #[.int .i64 (k : Int), .int .i64 prio, .bool false, .int .i64 0]) (by simp [results, Try.results10, go_sem]) rfl ⟨rfl, (by first | exact (HPUT.out _ HN3.out 15 (by omega) _ _ (FA_bump0 _ _)).below (bDr (bRef _) _) | exact HPUT.out _ (HN3.out.below (bDr (bRef _) _)) 15 (by omega) _ _ (FA_bump0 _ _)), (by first | exact (HT3.out.setg _ _).trans (TwoB.of (bDr (bRef _) _)) | exact (HT3.out.trans (TwoB.of (bDr (bRef _) _))).setg _ _)⟩)
    · have e2 : prioV f 0 prio = f.st.prio := by unfold prioV; rw [if_neg (by simp), if_pos hp]
      have d3 : (f.st.prio != -1) = true := by simpa using hp
      rw [e2]
      clear h hi hB hst hf' hv e1 e2 hf hg hr hp
      go_enter Try.func10, Try.ntmps10
      go_wp2_with (first
        | (go_at_call 12; (with_reducible refine (HFI.out _ HB.out).mono ?_); rintro e w2 ⟨rfl, hb⟩; have HN2 := Lib.hid (HN1.out.below hb); have HT2 := Lib.hid (show TwoB b g W w2 from TwoB.of (bTr HB.out hb)); have b0 := cell_of_row _ _ 0 _ _ _ HN2.out.box; clear hb)
        | (go_at_call 19; (with_reducible refine (HPA.out _ HN2.out).mono ?_); rintro e w3 ⟨rfl, hh, ht⟩; have HN3 := Lib.hid hh; have HT3 := Lib.hid (HT2.out.trans ht); clear ht; have cc : w3.cell? ⟨g, k * 21 + 15, none⟩ = some (.int .i64 f'.c0) := HG.out _ hh 15 (by omega); have c10 : w3.cell? ⟨g, k * 21 + 10, none⟩ = some (.int .i64 f.st.prio) := (HG.out _ hh 10 (by omega)).trans (by show some (Value.int .i64 f'.st.prio) = _; rw [HPR.out]); have zz := hh.fz (by rw [List.length_set]; exact HLn.out) (k * 21 + 15); clear hh))
      go_region
      all_goals (
        go_wp2_with fail
        exact bodyPost_ret (v := .tuple #[.int .i64 (k : Int), .int .i64 f.st.prio, .bool false, .int .i64 0]) (by simp [results, Try.results10, go_sem]) rfl ⟨rfl, (by first | exact (HPUT.out _ HN3.out 15 (by omega) _ _ (FA_bump0 _ _)).below (bDr (bRef _) _) | exact HPUT.out _ (HN3.out.below (bDr (bRef _) _)) 15 (by omega) _ _ (FA_bump0 _ _)), (by first | exact (HT3.out.setg _ _).trans (TwoB.of (bDr (bRef _) _)) | exact (HT3.out.trans (TwoB.of (bDr (bRef _) _))).setg _ _)⟩)
  · rw [hv] at HPA ⊢
    have e1 : bump f' 2 = { f' with c2 := wrap64 (f'.c2 + 1) } := by unfold bump; rw [if_neg (by decide), if_pos rfl]
    have e2 : prioV f 2 prio = 0 := by unfold prioV; rw [if_pos (by decide)]
    rw [e1, e2]
    clear h hi hB hst hf' hv e1 e2 hf hg hr
    go_enter Try.func10, Try.ntmps10
    go_wp2_with (first
      | (go_at_call 12; (with_reducible refine (HFI.out _ HB.out).mono ?_); rintro e w2 ⟨rfl, hb⟩; have HN2 := Lib.hid (HN1.out.below hb); have HT2 := Lib.hid (show TwoB b g W w2 from TwoB.of (bTr HB.out hb)); have b0 := cell_of_row _ _ 0 _ _ _ HN2.out.box; clear hb)
      | (go_at_call 19; (with_reducible refine (HPA.out _ HN2.out).mono ?_); rintro e w3 ⟨rfl, hh, ht⟩; have HN3 := Lib.hid hh; have HT3 := Lib.hid (HT2.out.trans ht); clear ht; have cc : w3.cell? ⟨g, k * 21 + 17, none⟩ = some (.int .i64 f'.c2) := HG.out _ hh 17 (by omega); have c10 : w3.cell? ⟨g, k * 21 + 10, none⟩ = some (.int .i64 f.st.prio) := (HG.out _ hh 10 (by omega)).trans (by show some (Value.int .i64 f'.st.prio) = _; rw [HPR.out]); have zz := hh.fz (by rw [List.length_set]; exact HLn.out) (k * 21 + 17); clear hh))
    go_region
    all_goals (
      go_wp2_with fail
      exact bodyPost_ret (v := .tuple #[.int .i64 (k : Int), .int .i64 0, .bool false, .int .i64 2]) (by simp [results, Try.results10, go_sem]) rfl ⟨rfl, (by first | exact (HPUT.out _ HN3.out 17 (by omega) _ _ (FA_bump2 _ _)).below (bDr (bRef _) _) | exact HPUT.out _ (HN3.out.below (bDr (bRef _) _)) 17 (by omega) _ _ (FA_bump2 _ _)), (by first | exact (HT3.out.setg _ _).trans (TwoB.of (bDr (bRef _) _)) | exact (HT3.out.trans (TwoB.of (bDr (bRef _) _))).setg _ _)⟩)
  · rw [hv] at HPA ⊢
    have e1 : bump f' 5 = { f' with c5 := wrap64 (f'.c5 + 1) } := by unfold bump; rw [if_neg (by decide), if_neg (by decide)]
    have e2 : prioV f 5 prio = 0 := by unfold prioV; rw [if_pos (by decide)]
    rw [e1, e2]
    clear h hi hB hst hf' hv e1 e2 hf hg hr
    go_enter Try.func10, Try.ntmps10
    go_wp2_with (first
      | (go_at_call 12; (with_reducible refine (HFI.out _ HB.out).mono ?_); rintro e w2 ⟨rfl, hb⟩; have HN2 := Lib.hid (HN1.out.below hb); have HT2 := Lib.hid (show TwoB b g W w2 from TwoB.of (bTr HB.out hb)); have b0 := cell_of_row _ _ 0 _ _ _ HN2.out.box; clear hb)
      | (go_at_call 19; (with_reducible refine (HPA.out _ HN2.out).mono ?_); rintro e w3 ⟨rfl, hh, ht⟩; have HN3 := Lib.hid hh; have HT3 := Lib.hid (HT2.out.trans ht); clear ht; have cc : w3.cell? ⟨g, k * 21 + 20, none⟩ = some (.int .i64 f'.c5) := HG.out _ hh 20 (by omega); have c10 : w3.cell? ⟨g, k * 21 + 10, none⟩ = some (.int .i64 f.st.prio) := (HG.out _ hh 10 (by omega)).trans (by show some (Value.int .i64 f'.st.prio) = _; rw [HPR.out]); have zz := hh.fz (by rw [List.length_set]; exact HLn.out) (k * 21 + 20); clear hh))
    go_region
    all_goals (
      go_wp2_with fail
      exact bodyPost_ret (v := .tuple #[.int .i64 (k : Int), .int .i64 0, .bool false, .int .i64 5]) (by simp [results, Try.results10, go_sem]) rfl ⟨rfl, (by first | exact (HPUT.out _ HN3.out 20 (by omega) _ _ (FA_bump5 _ _)).below (bDr (bRef _) _) | exact HPUT.out _ (HN3.out.below (bDr (bRef _) _)) 20 (by omega) _ _ (FA_bump5 _ _)), (by first | exact (HT3.out.setg _ _).trans (TwoB.of (bDr (bRef _) _)) | exact (HT3.out.trans (TwoB.of (bDr (bRef _) _))).setg _ _)⟩)

end Go.Proofs.Ytpdfgdjomlogbab
