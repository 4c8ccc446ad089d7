/- Package ptp: Decode, its ways. -/
import Derived.Test.YtcdcklkbjfhhnaaPtRead
import Derived.Test.YtcdcklkbjfhhnaaPtPath
namespace Go.Proofs.Ytcdcklkbjfhhnaa
open Go.RowKit Go.Joins

/-- What read answers, by the state that it leaves. -/
def RdTo (w : World) (b o : Nat) (xs : List Nat) (gm gr : Nat) (m : Mg) (err : Int) (s : St) : Prop :=
  ∀ W, NS w b o xs gm gr ⟨0, false⟩ W → w.heap.size ≤ W.heap.size → Calls Try.prog 26 #[.func (Fn.func 25) #[] #[.pointer (some ⟨gm, 0, none⟩), .pointer (some ⟨gr, 0, none⟩)]] W fun e w' => ∃ p n c B, e = .returned (.tuple #[.agg (MC m (.slice p n c)), .int .i64 err]) ∧ NS w b o xs gm gr s w' ∧ Kept2 gm gr W w' ∧ OwnI B w' (.slice p n c) m.path
theorem RdTo.go {w : World} {b o gm gr : Nat} {xs : List Nat} {m : Mg} {err : Int} {s : St} (h : RdTo w b o xs gm gr m err s) (W : World) (hs : NS w b o xs gm gr ⟨0, false⟩ W) (hw : w.heap.size ≤ W.heap.size) :
    Calls Try.prog 26 #[.func (Fn.func 25) #[] #[.pointer (some ⟨gm, 0, none⟩), .pointer (some ⟨gr, 0, none⟩)]] W fun e w' => ∃ p n c B, e = .returned (.tuple #[.agg (MC m (.slice p n c)), .int .i64 err]) ∧ NS w b o xs gm gr s w' ∧ Kept2 gm gr W w' ∧ OwnI B w' (.slice p n c) m.path := h W hs hw
/-- What Decode answers. -/
def DecR (w : World) (m : Mg) (err : Int) (e : Ending) (w' : World) : Prop := ∃ p n c, e = .returned (.tuple #[.agg (MC m (.slice p n c)), .int .i64 err]) ∧ Below w.heap.size w w' ∧ LArg w' (.slice p n c) m.path
theorem zero_arg (w : World) : LArg w (.slice none 0 0) Mg.zero.path := lnil w

theorem dec_short (p : Option Addr) (n c : Nat) (hn : n < 20) (w : World) : Calls Try.prog 14 #[.slice p n c] w (DecR w Mg.zero 20) := by
  have hd : decide ((n : Int) < 20) = true := decide_eq_true (by omega)
  go_enter Try.func14, Try.ntmps14
  go_wp2_with (first
    | ((with_reducible refine at_buildZ ?_); refine wpList_buildZ rfl rfl ?_)
    | ((with_reducible refine at_storeM ?_); refine wpList_storeM rfl _ _ rfl w.heap.size ZC rfl rfl (MC_one Mg.zero none 0 0) rfl _ (heap_alloc_new w _) rfl ?_))
  refine bodyM2 rfl w.heap.size ZC _ rfl rfl (setRow_heap _ _ _ _ _ _ (heap_alloc_new w _)) rfl rfl ?_
  exact ⟨none, 0, 0, rfl, below_setRow (bAl (bRef w) _) (Nat.le_refl _) _, lnil _⟩

/-- The two blocks of the closure. -/
theorem NS.start (w : World) (b o c : Nat) (xs : List Nat) (hl : 0 < xs.length) (hc : xs.length ≤ c) :
    NS w b o xs (w.heap.size + 1 + 1) (w.heap.size + 1) ⟨0, false⟩ (((w.alloc (.cells #[.int .i64 0, .int .i64 0, .int .i64 0, .int .i64 0, .int .i64 0, .int .i64 0, .int .i64 0, .int .i64 0, .int .i64 0, .int .i64 0, .int .i64 0, .int .i64 0, .int .i64 0, .int .i64 0, .int .i64 0, .slice none 0 0] 28)).alloc (.cells #[.slice (some ⟨b, o, none⟩) xs.length c] 30)).alloc (.cells #[.bool false] 4)) := by
  refine ⟨?_, ⟨o, c, ?_, hc, fun _ => rfl⟩, bAl (bAl (bAl (bRef w) _) _) _, Nat.zero_le _, by omega, by omega, by omega⟩
  · have := heap_alloc_new ((w.alloc (.cells #[.int .i64 0, .int .i64 0, .int .i64 0, .int .i64 0, .int .i64 0, .int .i64 0, .int .i64 0, .int .i64 0, .int .i64 0, .int .i64 0, .int .i64 0, .int .i64 0, .int .i64 0, .int .i64 0, .int .i64 0, .slice none 0 0] 28)).alloc (.cells #[.slice (some ⟨b, o, none⟩) xs.length c] 30)) (.cells #[.bool false] 4)
    simpa using this
  · have := heap_alloc2_old (w.alloc (.cells #[.int .i64 0, .int .i64 0, .int .i64 0, .int .i64 0, .int .i64 0, .int .i64 0, .int .i64 0, .int .i64 0, .int .i64 0, .int .i64 0, .int .i64 0, .int .i64 0, .int .i64 0, .int .i64 0, .int .i64 0, .slice none 0 0] 28)) (.cells #[.slice (some ⟨b, o, none⟩) xs.length c] 30) (.cells #[.bool false] 4)
    simpa using this
theorem zero3 (w : World) (A B C : Obj) : (((w.alloc A).alloc B).alloc C).heap[w.heap.size]? = some A := by
  show ((w.heap.push A).push B |>.push C)[w.heap.size]? = some A
  rw [Array.getElem?_push, if_neg (by simp; omega), Array.getElem?_push, if_neg (by simp), Array.getElem?_push, if_pos rfl]

set_option maxHeartbeats 2000000 in
theorem dec_err (w : World) (b o c : Nat) (xs : List Nat) (h20 : 20 ≤ xs.length) (hl : xs.length < 140737488355328) (hc : xs.length ≤ c) (m : Mg) (s : St) (err : Nat) (he : ((err : Int) != 0) = true)
    (HR : Hid (RdTo w b o xs (w.heap.size + 1 + 1) (w.heap.size + 1) m (err : Int) s)) :
    Calls Try.prog 14 #[.slice (some ⟨b, o, none⟩) xs.length c] w (DecR w Mg.zero (err : Int)) := by
  have HS := Lib.hid (NS.start w b o c xs (by omega) hc)
  have HZ0 := Lib.hid (zero3 w (.cells #[.int .i64 0, .int .i64 0, .int .i64 0, .int .i64 0, .int .i64 0, .int .i64 0, .int .i64 0, .int .i64 0, .int .i64 0, .int .i64 0, .int .i64 0, .int .i64 0, .int .i64 0, .int .i64 0, .int .i64 0, .slice none 0 0] 28) (.cells #[.slice (some ⟨b, o, none⟩) xs.length c] 30) (.cells #[.bool false] 4))
  have hd : decide ((xs.length : Int) < 20) = false := decide_eq_false (by omega)
  obtain ⟨k, mi⟩ := s
  go_enter Try.func14, Try.ntmps14
  go_wp2_with (first
    | (go_at_call 26; (with_reducible refine (HR.out.go _ HS.out (by simp; omega)).mono ?_); rintro e w1 ⟨p1, n1, c1, B1, rfl, hns, hkept, hown⟩; have HN := Lib.hid hns; have HO := Lib.hid hown; have HZ := Lib.hid (show w1.heap[w.heap.size]? = some (.cells #[.int .i64 0, .int .i64 0, .int .i64 0, .int .i64 0, .int .i64 0, .int .i64 0, .int .i64 0, .int .i64 0, .int .i64 0, .int .i64 0, .int .i64 0, .int .i64 0, .int .i64 0, .int .i64 0, .int .i64 0, .slice none 0 0] 28 (0, 0)) from (hkept.2 _ (by simp; omega) (by omega) (by omega)).trans HZ0.out); have km := fun ob => cell_of_row _ _ 0 _ _ _ (hns.below (bAl (bRef w1) ob)).1; obtain ⟨oo, cc, hgr, hcc, _⟩ := hns.2.1; have HG := Lib.hid hgr; have kr := fun ob => cell_of_row _ _ 0 _ _ _ (Oth.below (bAl (bRef w1) ob) _ _ _ _ hgr (by decide)); simp only [List.getElem?_toArray, List.getElem?_cons_zero] at km kr; clear hns hkept hown hgr hcc)
    | ((with_reducible refine at_storeM ?_); refine wpList_storeNM rfl _ _ rfl _ rfl (MC m (.slice p1 n1 c1)) _ rfl rfl (MC_one _ _ _ _) rfl rfl ?_)
    | ((with_reducible refine at_buildZ ?_); refine wpList_buildZ rfl rfl ?_)
    | ((with_reducible refine at_storeM ?_); refine wpList_storeM rfl _ _ rfl w.heap.size ZC rfl rfl (MC_one Mg.zero none 0 0) rfl _ (Oth.below (bAl (bRef w1) _) _ _ _ _ HZ.out (by decide)) rfl ?_))
  refine bodyM2 rfl w.heap.size ZC _ rfl rfl (setRow_heap _ _ _ _ _ _ (Oth.below (bAl (bRef w1) _) _ _ _ _ HZ.out (by decide))) rfl rfl ?_
  exact ⟨none, 0, 0, rfl, below_setRow (bAl HN.out.2.2.1 _) (Nat.le_refl _) _, lnil _⟩

set_option maxHeartbeats 2000000 in
theorem dec_miss (w : World) (b o c : Nat) (xs : List Nat) (h20 : 20 ≤ xs.length) (hl : xs.length < 140737488355328) (hc : xs.length ≤ c) (m : Mg) (s : St) (hmi : s.mi = true) 
    (HR : Hid (RdTo w b o xs (w.heap.size + 1 + 1) (w.heap.size + 1) m 0 s)) :
    Calls Try.prog 14 #[.slice (some ⟨b, o, none⟩) xs.length c] w (DecR w Mg.zero 20) := by
  have HS := Lib.hid (NS.start w b o c xs (by omega) hc)
  have HZ0 := Lib.hid (zero3 w (.cells #[.int .i64 0, .int .i64 0, .int .i64 0, .int .i64 0, .int .i64 0, .int .i64 0, .int .i64 0, .int .i64 0, .int .i64 0, .int .i64 0, .int .i64 0, .int .i64 0, .int .i64 0, .int .i64 0, .int .i64 0, .slice none 0 0] 28) (.cells #[.slice (some ⟨b, o, none⟩) xs.length c] 30) (.cells #[.bool false] 4))
  have hd : decide ((xs.length : Int) < 20) = false := decide_eq_false (by omega)
  obtain ⟨k, mi⟩ := s
  dsimp only at hmi
  subst hmi
  go_enter Try.func14, Try.ntmps14
  go_wp2_with (first
    | (go_at_call 26; (with_reducible refine (HR.out.go _ HS.out (by simp; omega)).mono ?_); rintro e w1 ⟨p1, n1, c1, B1, rfl, hns, hkept, hown⟩; have HN := Lib.hid hns; have HO := Lib.hid hown; have HZ := Lib.hid (show w1.heap[w.heap.size]? = some (.cells #[.int .i64 0, .int .i64 0, .int .i64 0, .int .i64 0, .int .i64 0, .int .i64 0, .int .i64 0, .int .i64 0, .int .i64 0, .int .i64 0, .int .i64 0, .int .i64 0, .int .i64 0, .int .i64 0, .int .i64 0, .slice none 0 0] 28 (0, 0)) from (hkept.2 _ (by simp; omega) (by omega) (by omega)).trans HZ0.out); have km := fun ob => cell_of_row _ _ 0 _ _ _ (hns.below (bAl (bRef w1) ob)).1; obtain ⟨oo, cc, hgr, hcc, _⟩ := hns.2.1; have HG := Lib.hid hgr; have kr := fun ob => cell_of_row _ _ 0 _ _ _ (Oth.below (bAl (bRef w1) ob) _ _ _ _ hgr (by decide)); simp only [List.getElem?_toArray, List.getElem?_cons_zero] at km kr; clear hns hkept hown hgr hcc)
    | ((with_reducible refine at_storeM ?_); refine wpList_storeNM rfl _ _ rfl _ rfl (MC m (.slice p1 n1 c1)) _ rfl rfl (MC_one _ _ _ _) rfl rfl ?_)
    | ((with_reducible refine at_buildZ ?_); refine wpList_buildZ rfl rfl ?_)
    | ((with_reducible refine at_storeM ?_); refine wpList_storeM rfl _ _ rfl w.heap.size ZC rfl rfl (MC_one Mg.zero none 0 0) rfl _ (Oth.below (bAl (bRef w1) _) _ _ _ _ HZ.out (by decide)) rfl ?_))
  refine bodyM2 rfl w.heap.size ZC _ rfl rfl (setRow_heap _ _ _ _ _ _ (Oth.below (bAl (bRef w1) _) _ _ _ _ HZ.out (by decide))) rfl rfl ?_
  exact ⟨none, 0, 0, rfl, below_setRow (bAl HN.out.2.2.1 _) (Nat.le_refl _) _, lnil _⟩

set_option maxHeartbeats 2000000 in
theorem dec_trail (w : World) (b o c : Nat) (xs : List Nat) (h20 : 20 ≤ xs.length) (hl : xs.length < 140737488355328) (hc : xs.length ≤ c) (m : Mg) (s : St) (hmi : s.mi = false) (hk : s.k < xs.length)
    (HR : Hid (RdTo w b o xs (w.heap.size + 1 + 1) (w.heap.size + 1) m 0 s)) :
    Calls Try.prog 14 #[.slice (some ⟨b, o, none⟩) xs.length c] w (DecR w Mg.zero 24) := by
  have HS := Lib.hid (NS.start w b o c xs (by omega) hc)
  have HZ0 := Lib.hid (zero3 w (.cells #[.int .i64 0, .int .i64 0, .int .i64 0, .int .i64 0, .int .i64 0, .int .i64 0, .int .i64 0, .int .i64 0, .int .i64 0, .int .i64 0, .int .i64 0, .int .i64 0, .int .i64 0, .int .i64 0, .int .i64 0, .slice none 0 0] 28) (.cells #[.slice (some ⟨b, o, none⟩) xs.length c] 30) (.cells #[.bool false] 4))
  have hd : decide ((xs.length : Int) < 20) = false := decide_eq_false (by omega)
  obtain ⟨k, mi⟩ := s
  dsimp only at hmi
  subst hmi
  dsimp only at hk
  have hk2 : 0 < xs.length - k := by omega
  go_enter Try.func14, Try.ntmps14
  go_wp2_with (first
    | (go_at_call 26; (with_reducible refine (HR.out.go _ HS.out (by simp; omega)).mono ?_); rintro e w1 ⟨p1, n1, c1, B1, rfl, hns, hkept, hown⟩; have HN := Lib.hid hns; have HO := Lib.hid hown; have HZ := Lib.hid (show w1.heap[w.heap.size]? = some (.cells #[.int .i64 0, .int .i64 0, .int .i64 0, .int .i64 0, .int .i64 0, .int .i64 0, .int .i64 0, .int .i64 0, .int .i64 0, .int .i64 0, .int .i64 0, .int .i64 0, .int .i64 0, .int .i64 0, .int .i64 0, .slice none 0 0] 28 (0, 0)) from (hkept.2 _ (by simp; omega) (by omega) (by omega)).trans HZ0.out); have km := fun ob => cell_of_row _ _ 0 _ _ _ (hns.below (bAl (bRef w1) ob)).1; obtain ⟨oo, cc, hgr, hcc, _⟩ := hns.2.1; have HG := Lib.hid hgr; have kr := fun ob => cell_of_row _ _ 0 _ _ _ (Oth.below (bAl (bRef w1) ob) _ _ _ _ hgr (by decide)); simp only [List.getElem?_toArray, List.getElem?_cons_zero] at km kr; clear hns hkept hown hgr hcc)
    | ((with_reducible refine at_storeM ?_); refine wpList_storeNM rfl _ _ rfl _ rfl (MC m (.slice p1 n1 c1)) _ rfl rfl (MC_one _ _ _ _) rfl rfl ?_)
    | ((with_reducible refine at_buildZ ?_); refine wpList_buildZ rfl rfl ?_)
    | ((with_reducible refine at_storeM ?_); refine wpList_storeM rfl _ _ rfl w.heap.size ZC rfl rfl (MC_one Mg.zero none 0 0) rfl _ (Oth.below (bAl (bRef w1) _) _ _ _ _ HZ.out (by decide)) rfl ?_))
  refine bodyM2 rfl w.heap.size ZC _ rfl rfl (setRow_heap _ _ _ _ _ _ (Oth.below (bAl (bRef w1) _) _ _ _ _ HZ.out (by decide))) rfl rfl ?_
  exact ⟨none, 0, 0, rfl, below_setRow (bAl HN.out.2.2.1 _) (Nat.le_refl _) _, lnil _⟩

set_option maxHeartbeats 2000000 in
theorem dec_wrong (w : World) (b o c : Nat) (xs : List Nat) (h20 : 20 ≤ xs.length) (hl : xs.length < 140737488355328) (hc : xs.length ≤ c) (m : Mg) (s : St) (hmi : s.mi = false) (hk : s.k = xs.length) (x : Nat) (hx : ((x : Int) != 0) = true)
    (HR : Hid (RdTo w b o xs (w.heap.size + 1 + 1) (w.heap.size + 1) m 0 s))
    (HC : Hid (∀ W v, LArg W v m.path → Calls Try.prog 12 #[.agg (MC m v)] W fun e w' => e = .returned (.int .i64 (x : Int)) ∧ Below W.heap.size W w')) :
    Calls Try.prog 14 #[.slice (some ⟨b, o, none⟩) xs.length c] w (DecR w Mg.zero (x : Int)) := by
  have HS := Lib.hid (NS.start w b o c xs (by omega) hc)
  have HZ0 := Lib.hid (zero3 w (.cells #[.int .i64 0, .int .i64 0, .int .i64 0, .int .i64 0, .int .i64 0, .int .i64 0, .int .i64 0, .int .i64 0, .int .i64 0, .int .i64 0, .int .i64 0, .int .i64 0, .int .i64 0, .int .i64 0, .int .i64 0, .slice none 0 0] 28) (.cells #[.slice (some ⟨b, o, none⟩) xs.length c] 30) (.cells #[.bool false] 4))
  have hd : decide ((xs.length : Int) < 20) = false := decide_eq_false (by omega)
  obtain ⟨k, mi⟩ := s
  dsimp only at hmi
  subst hmi
  dsimp only at hk
  have hk2 : ¬ 0 < xs.length - k := by omega
  go_enter Try.func14, Try.ntmps14
  go_wp2_with (first
    | (go_at_call 26; (with_reducible refine (HR.out.go _ HS.out (by simp; omega)).mono ?_); rintro e w1 ⟨p1, n1, c1, B1, rfl, hns, hkept, hown⟩; have HN := Lib.hid hns; have HO := Lib.hid hown; have HZ := Lib.hid (show w1.heap[w.heap.size]? = some (.cells #[.int .i64 0, .int .i64 0, .int .i64 0, .int .i64 0, .int .i64 0, .int .i64 0, .int .i64 0, .int .i64 0, .int .i64 0, .int .i64 0, .int .i64 0, .int .i64 0, .int .i64 0, .int .i64 0, .int .i64 0, .slice none 0 0] 28 (0, 0)) from (hkept.2 _ (by simp; omega) (by omega) (by omega)).trans HZ0.out); have km := fun ob => cell_of_row _ _ 0 _ _ _ (hns.below (bAl (bRef w1) ob)).1; obtain ⟨oo, cc, hgr, hcc, _⟩ := hns.2.1; have HG := Lib.hid hgr; have kr := fun ob => cell_of_row _ _ 0 _ _ _ (Oth.below (bAl (bRef w1) ob) _ _ _ _ hgr (by decide)); simp only [List.getElem?_toArray, List.getElem?_cons_zero] at km kr; clear hns hkept hown hgr hcc)
    | ((with_reducible refine at_storeM ?_); refine wpList_storeNM rfl _ _ rfl _ rfl (MC m (.slice p1 n1 c1)) _ rfl rfl (MC_one _ _ _ _) rfl rfl ?_)
    | ((with_reducible refine at_loadM ?_); refine wpList_loadM rfl _ rfl w1.heap.size rfl (MC m (.slice p1 n1 c1)) _ (heap_alloc_new w1 _) rfl ?_)
    | (go_at_call 12; (with_reducible refine (HC.out _ _ (HO.out.below (bAl (bRef w1) _)).arg).mono ?_); rintro e w2 ⟨rfl, hb⟩; have HB2 := Lib.hid (bTr (bAl HN.out.2.2.1 _) hb); have HZ2 := Lib.hid (Oth.below (bTr (bAl (bRef w1) _) hb) _ _ _ _ HZ.out (by decide)); have HM2 := Lib.hid (Boxed.below (g := w1.heap.size) (m := m) (v := .slice p1 n1 c1) (heap_alloc_new w1 _) hb); have HO2 := Lib.hid ((HO.out.below (bAl (bRef w1) _)).below hb); clear hb)
    | ((with_reducible refine at_buildZ ?_); refine wpList_buildZ rfl rfl ?_)
    | ((with_reducible refine at_storeM ?_); refine wpList_storeM rfl _ _ rfl w.heap.size ZC rfl rfl (MC_one Mg.zero none 0 0) rfl _ HZ2.out rfl ?_))
  refine bodyM2 rfl w.heap.size ZC _ rfl rfl (setRow_heap _ _ _ _ _ _ HZ2.out) rfl rfl ?_
  exact ⟨none, 0, 0, rfl, below_setRow HB2.out (Nat.le_refl _) _, lnil _⟩

set_option maxHeartbeats 2000000 in
theorem dec_good (w : World) (b o c : Nat) (xs : List Nat) (h20 : 20 ≤ xs.length) (hl : xs.length < 140737488355328) (hc : xs.length ≤ c) (m : Mg) (s : St) (hmi : s.mi = false) (hk : s.k = xs.length)
    (HR : Hid (RdTo w b o xs (w.heap.size + 1 + 1) (w.heap.size + 1) m 0 s))
    (HC : Hid (∀ W v, LArg W v m.path → Calls Try.prog 12 #[.agg (MC m v)] W fun e w' => e = .returned (.int .i64 0) ∧ Below W.heap.size W w')) :
    Calls Try.prog 14 #[.slice (some ⟨b, o, none⟩) xs.length c] w (DecR w m 0) := by
  have HS := Lib.hid (NS.start w b o c xs (by omega) hc)
  have HZ0 := Lib.hid (zero3 w (.cells #[.int .i64 0, .int .i64 0, .int .i64 0, .int .i64 0, .int .i64 0, .int .i64 0, .int .i64 0, .int .i64 0, .int .i64 0, .int .i64 0, .int .i64 0, .int .i64 0, .int .i64 0, .int .i64 0, .int .i64 0, .slice none 0 0] 28) (.cells #[.slice (some ⟨b, o, none⟩) xs.length c] 30) (.cells #[.bool false] 4))
  have hd : decide ((xs.length : Int) < 20) = false := decide_eq_false (by omega)
  obtain ⟨k, mi⟩ := s
  dsimp only at hmi
  subst hmi
  dsimp only at hk
  have hk2 : ¬ 0 < xs.length - k := by omega
  go_enter Try.func14, Try.ntmps14
  go_wp2_with (first
    | (go_at_call 26; (with_reducible refine (HR.out.go _ HS.out (by simp; omega)).mono ?_); rintro e w1 ⟨p1, n1, c1, B1, rfl, hns, hkept, hown⟩; have HN := Lib.hid hns; have HO := Lib.hid hown; have HZ := Lib.hid (show w1.heap[w.heap.size]? = some (.cells #[.int .i64 0, .int .i64 0, .int .i64 0, .int .i64 0, .int .i64 0, .int .i64 0, .int .i64 0, .int .i64 0, .int .i64 0, .int .i64 0, .int .i64 0, .int .i64 0, .int .i64 0, .int .i64 0, .int .i64 0, .slice none 0 0] 28 (0, 0)) from (hkept.2 _ (by simp; omega) (by omega) (by omega)).trans HZ0.out); have km := fun ob => cell_of_row _ _ 0 _ _ _ (hns.below (bAl (bRef w1) ob)).1; obtain ⟨oo, cc, hgr, hcc, _⟩ := hns.2.1; have HG := Lib.hid hgr; have kr := fun ob => cell_of_row _ _ 0 _ _ _ (Oth.below (bAl (bRef w1) ob) _ _ _ _ hgr (by decide)); simp only [List.getElem?_toArray, List.getElem?_cons_zero] at km kr; clear hns hkept hown hgr hcc)
    | ((with_reducible refine at_storeM ?_); refine wpList_storeNM rfl _ _ rfl _ rfl (MC m (.slice p1 n1 c1)) _ rfl rfl (MC_one _ _ _ _) rfl rfl ?_)
    | ((with_reducible refine at_loadM ?_); refine wpList_loadM rfl _ rfl w1.heap.size rfl (MC m (.slice p1 n1 c1)) _ (heap_alloc_new w1 _) rfl ?_)
    | (go_at_call 12; (with_reducible refine (HC.out _ _ (HO.out.below (bAl (bRef w1) _)).arg).mono ?_); rintro e w2 ⟨rfl, hb⟩; have HB2 := Lib.hid (bTr (bAl HN.out.2.2.1 _) hb); have HZ2 := Lib.hid (Oth.below (bTr (bAl (bRef w1) _) hb) _ _ _ _ HZ.out (by decide)); have HM2 := Lib.hid (Boxed.below (g := w1.heap.size) (m := m) (v := .slice p1 n1 c1) (heap_alloc_new w1 _) hb); have HO2 := Lib.hid ((HO.out.below (bAl (bRef w1) _)).below hb); clear hb)
    | ((with_reducible refine at_loadM ?_); refine wpList_loadM rfl _ rfl w1.heap.size rfl (MC m (.slice p1 n1 c1)) _ HM2.out rfl ?_)
    | ((with_reducible refine at_storeM ?_); refine wpList_storeM rfl _ _ rfl w.heap.size (MC m (.slice p1 n1 c1)) rfl rfl (MC_one _ _ _ _) rfl _ HZ2.out rfl ?_))
  refine bodyM2 rfl w.heap.size (MC m (.slice p1 n1 c1)) _ rfl rfl (setRow_heap _ _ _ _ _ _ HZ2.out) rfl rfl ?_
  exact ⟨p1, n1, c1, rfl, below_setRow HB2.out (Nat.le_refl _) _, (HO2.out.row _ HZ2.out (by decide)).arg⟩

end Go.Proofs.Ytcdcklkbjfhhnaa
