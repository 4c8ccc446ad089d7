/- What the reference's Decode answers, in plain numbers: what the program's does. -/
import Derived.Test.YtcdcklkbjfhhnaaPtRef9
namespace Go.Proofs.Ytcdcklkbjfhhnaa
open Go.RowKit Go.Joins

/-- A message of these numbers. -/
def ofN (N p : List Int) : Mg := ⟨N.getD 0 0, N.getD 1 0, N.getD 2 0, N.getD 3 0, N.getD 4 0, N.getD 5 0, N.getD 6 0, N.getD 7 0, N.getD 8 0, N.getD 9 0, N.getD 10 0, N.getD 11 0, N.getD 12 0, N.getD 13 0, N.getD 14 0, p⟩
theorem ofN_nums (m : Mg) : ofN (nums m) m.path = m := by cases m; rfl
def pathR (xs : List Nat) (k : Nat) : Nat → List Int
  | 0 => []
  | c + 1 => w64 (unum ((xs.drop k).take 6)) :: pathR xs (k + 6) c
/-- The end: nothing may be left, and Check must take it. -/
def fin6 (xs : List Nat) (m : Mg) (at_ : Nat) : Nat × Mg := if at_ < xs.length then (24, Mg.zero) else if m.chk ≠ 0 then (1, Mg.zero) else (0, m)
def path6 (xs : List Nat) (N : List Int) (at_ : Nat) : Nat × Mg :=
  if xs.length ≤ at_ then (20, Mg.zero) else if 32 < xs.getD at_ 0 then (4, Mg.zero) else if xs.length < at_ + 1 + 6 * xs.getD at_ 0 then (20, Mg.zero)
  else fin6 xs (ofN N (pathR xs (at_ + 1) (xs.getD at_ 0))) (at_ + 1 + 6 * xs.getD at_ 0)
def rest6 (xs : List Nat) (k : Int) (r : List Int × Nat × Bool) : Nat × Mg :=
  if r.2.2 = true then (20, Mg.zero) else if k = 11 then path6 xs r.1 r.2.1 else fin6 xs (ofN r.1 []) r.2.1
def rres (xs : List Nat) : Nat × Mg :=
  if xs.length < 20 then (20, Mg.zero) else if nval xs s0 1 < 16 ∨ 31 < nval xs s0 1 then (21, Mg.zero)
  else if kindB (nval xs s0 1 - 16) = false then (23, Mg.zero) else rest6 xs (nval xs s0 1 - 16) (go6 xs (pairsOf (nval xs s0 1 - 16)) 1 (start6 (nval xs s0 1 - 16)))

theorem chk01 {m : Mg} (hk : kindB m.kind = true) (hp : m.path.length ≤ 32) : m.chk = 0 ∨ m.chk = 1 := by
  unfold Mg.chk
  rw [if_pos hk]
  split
  · rw [if_neg (by omega)]
    split <;> simp
  · exact .inr rfl
/-- The rest of dres. -/
def dfin (xs : List Nat) (e : Nat) (m : Mg) (s : St) : Nat × Mg :=
  if e ≠ 0 then (e, Mg.zero) else if s.mi then (20, Mg.zero) else if s.k < xs.length then (24, Mg.zero) else if m.chk ≠ 0 then (m.chk, Mg.zero) else (0, m)
theorem dres_eq (xs : List Nat) (h : ¬ xs.length < 20) {e : Nat} {m : Mg} {s : St} (hr : rd xs = (e, m, s)) : dres xs = dfin xs e m s := by
  unfold dres dfin
  rw [if_neg h, hr]
theorem dfin_ok {xs : List Nat} {m : Mg} {k : Nat} (hk : kindB m.kind = true) (hp : m.path.length ≤ 32) : dfin xs 0 m ⟨k, false⟩ = fin6 xs m k := by
  unfold dfin fin6
  rw [if_neg (by simp), if_neg (by simp)]
  show (if k < xs.length then _ else _) = _
  rcases chk01 hk hp with h | h <;> simp [h]
theorem st_eq {S : St} (h : S.mi = false) : S = ⟨S.k, false⟩ := by
  cases S
  dsimp only at h ⊢
  rw [h]
theorem dfin_mi {xs : List Nat} {m : Mg} {s : St} (h : s.mi = true) : dfin xs 0 m s = (20, Mg.zero) := by
  unfold dfin
  rw [if_neg (by simp), if_pos h]
theorem run_rep (xs : List Nat) : ∀ (c k : Nat), (k + 6 * c ≤ xs.length → run xs ⟨k, false⟩ (List.replicate c 6) = (pathR xs k c, ⟨k + 6 * c, false⟩)) ∧ (xs.length < k + 6 * c → k ≤ xs.length → (run xs ⟨k, false⟩ (List.replicate c 6)).2.mi = true)
  | 0, k => ⟨fun _ => rfl, fun h1 h2 => by omega⟩
  | c + 1, k => by
    have ih := run_rep xs c (k + 6)
    have e : run xs ⟨k, false⟩ (List.replicate (c + 1) 6) = (nval xs ⟨k, false⟩ 6 :: (run xs (nst xs ⟨k, false⟩ 6) (List.replicate c 6)).1, (run xs (nst xs ⟨k, false⟩ 6) (List.replicate c 6)).2) := rfl
    rw [e]
    by_cases hh : xs.length < k + 6
    · have e1 : nst xs ⟨k, false⟩ 6 = ⟨k, true⟩ := by simp [nst, hh]
      rw [e1]
      exact ⟨fun h => by omega, fun _ _ => run_gone xs _ k⟩
    · have e1 : nst xs ⟨k, false⟩ 6 = ⟨k + 6, false⟩ := by simp [nst, hh]
      have e2 : nval xs ⟨k, false⟩ 6 = w64 (unum ((xs.drop k).take 6)) := by simp [nval, hh]
      rw [e1, e2]
      refine ⟨fun h => ?_, fun h1 h2 => ih.2 (by omega) (by omega)⟩
      rw [ih.1 (by omega)]
      show (_, St.mk (k + 6 + 6 * c) false) = (_, St.mk (k + 6 * (c + 1)) false)
      rw [show k + 6 + 6 * c = k + 6 * (c + 1) by omega]
      rfl
theorem pathR_len (xs : List Nat) : ∀ (c k : Nat), (pathR xs k c).length = c
  | 0, _ => rfl
  | c + 1, k => by show (pathR xs (k + 6) c).length + 1 = _; rw [pathR_len xs c]
theorem list10 {l : List Int} (h : l.length = 10) : ∃ a b c d e f g i j k, l = [a, b, c, d, e, f, g, i, j, k] := by
  match l, h with
  | [a, b, c, d, e, f, g, i, j, k], _ => exact ⟨a, b, c, d, e, f, g, i, j, k, rfl⟩
theorem list7 {l : List Int} (h : l.length = 7) : ∃ a b c d e f g, l = [a, b, c, d, e, f, g] := by
  match l, h with
  | [a, b, c, d, e, f, g], _ => exact ⟨a, b, c, d, e, f, g, rfl⟩
theorem list5 {l : List Int} (h : l.length = 5) : ∃ a b c d e, l = [a, b, c, d, e] := by
  match l, h with
  | [a, b, c, d, e], _ => exact ⟨a, b, c, d, e, rfl⟩
theorem one_at {xs : List Nat} {k : Nat} (h : k < xs.length) : unum ((xs.drop k).take 1) = xs.getD k 0 := by
  have e : (xs.drop k).take 1 = [xs.getD k 0] := by
    rw [List.drop_eq_getElem_cons h, List.take_succ_cons, List.take_zero, List.getD_eq_getElem?_getD, List.getElem?_eq_getElem h]
    rfl
  rw [e]
  simp [unum]
/-- A kind that has no more than its numbers. -/
theorem plain6 {xs : List Nat} {k x : Int} {zs : List Nat} {P : List (Nat × Nat)} {M : List Int → Mg} (h20 : ¬ xs.length < 20) (hP : P.map Prod.snd = zs) (hM : ∀ v : List Int, v.length = zs.length → puts (start6 k) (P.map Prod.fst) v = nums (M (x :: v)) ∧ (M (x :: v)).path = [] ∧ kindB (M (x :: v)).kind = true)
    (hx : nval xs s0 1 = x) (hk : k ≠ 11) : dfin xs 0 (M (run xs s0 (1 :: zs)).1) (run xs s0 (1 :: zs)).2 = rest6 xs k (go6 xs P 1 (start6 k)) := by
  have e1 : nst xs s0 1 = ⟨1, false⟩ := by
    have q : ¬ xs.length < 0 + 1 := by omega
    unfold nst s0
    simp only [Bool.false_or, decide_eq_true_eq]
    rw [if_neg q]
  have e : run xs s0 (1 :: zs) = (x :: (run xs ⟨1, false⟩ zs).1, (run xs ⟨1, false⟩ zs).2) := by
    rw [← hx, ← e1]; rfl
  rw [e]
  have hs := go6_short xs P 1 (start6 k)
  rw [hP] at hs
  unfold rest6
  cases hmi : (run xs ⟨1, false⟩ zs).2.mi with
  | true =>
    rw [hmi] at hs
    rw [if_pos hs]
    exact dfin_mi hmi
  | false =>
    have ho := go6_ok xs P 1 (start6 k) (by rw [hP]; exact hmi)
    rw [hP] at ho
    obtain ⟨m1, m2, m3⟩ := hM (run xs ⟨1, false⟩ zs).1 (run_len xs _ _)
    rw [ho, if_neg (by simp), if_neg hk]
    show _ = fin6 xs (ofN (puts (start6 k) (P.map Prod.fst) (run xs ⟨1, false⟩ zs).1) []) (run xs ⟨1, false⟩ zs).2.k
    rw [m1, ← m2, ofN_nums, ← dfin_ok m3 (by rw [m2]; simp)]
    exact congrArg (dfin xs 0 _) (st_eq hmi)
theorem kinds6 {k : Int} (h : kindB k = true) : k = 0 ∨ k = 2 ∨ k = 3 ∨ k = 8 ∨ k = 10 ∨ k = 11 := kindB_iff.1 h
set_option maxHeartbeats 1000000 in
theorem rres_dres {xs : List Nat} (hb8 : Crc.Bytes xs) : rres xs = dres xs := by
  by_cases h20 : xs.length < 20
  · unfold rres dres
    rw [if_pos h20, if_pos h20]
  unfold rres
  rw [if_neg h20]
  by_cases hb : nval xs s0 1 < 16 ∨ 31 < nval xs s0 1
  · rw [if_pos hb, dres_eq xs h20 (show rd xs = (21, Mg.zero, nst xs s0 1) by unfold rd; rw [if_pos hb])]
    rfl
  rw [if_neg hb]
  cases hkb : kindB (nval xs s0 1 - 16) with
  | false =>
    rw [if_pos rfl, dres_eq xs h20 (show rd xs = (23, Mg.zero, nst xs s0 1) by unfold rd; rw [if_neg hb, if_pos hkb])]
    rfl
  | true =>
    rw [if_neg (by simp)]
    have hrd : rd xs = if nval xs s0 1 = 19 ∨ nval xs s0 1 = 26 then (0, mgA (nval xs s0 1 - 16) (run xs s0 zA).1, (run xs s0 zA).2)
      else if nval xs s0 1 = 24 then (0, mgF 8 (run xs s0 zF).1, (run xs s0 zF).2)
      else if nval xs s0 1 = 27 then
        if 32 < clocks xs then (4, Mg.zero, (run xs s0 zN).2) else (0, mgN 11 (run xs s0 zN).1 (paths xs).1, (paths xs).2)
      else (0, mg0 (nval xs s0 1 - 16) (run xs s0 zH).1, (run xs s0 zH).2) := by
      unfold rd; rw [if_neg hb, if_neg (by rw [hkb]; simp)]
    rcases kinds6 hkb with h | h | h | h | h | h
    · have hx : nval xs s0 1 = 16 := by omega
      rw [hx, if_neg (by decide), if_neg (by decide), if_neg (by decide)] at hrd
      rw [dres_eq xs h20 hrd, hx]
      exact (plain6 (zs := [1, 2, 6, 2, 8]) (M := mg0 (16 - 16)) h20 rfl (fun v hv => ⟨puts_0 _ _ v hv, rfl, rfl⟩) hx (by decide)).symm
    · have hx : nval xs s0 1 = 18 := by omega
      rw [hx, if_neg (by decide), if_neg (by decide), if_neg (by decide)] at hrd
      rw [dres_eq xs h20 hrd, hx]
      exact (plain6 (zs := [1, 2, 6, 2, 8]) (M := mg0 (18 - 16)) h20 rfl (fun v hv => ⟨puts_0 _ _ v hv, rfl, rfl⟩) hx (by decide)).symm
    · have hx : nval xs s0 1 = 19 := by omega
      rw [hx, if_pos (by decide)] at hrd
      rw [dres_eq xs h20 hrd, hx]
      exact (plain6 (zs := [1, 2, 6, 2, 8, 8, 6, 2]) (M := mgA (19 - 16)) h20 rfl (fun v hv => ⟨puts_A _ _ v hv, rfl, rfl⟩) hx (by decide)).symm
    · have hx : nval xs s0 1 = 24 := by omega
      rw [hx, if_neg (by decide), if_pos rfl] at hrd
      rw [dres_eq xs h20 hrd, hx]
      exact (plain6 (zs := [1, 2, 6, 2, 8, 8, 8]) (M := mgF 8) h20 rfl (fun v hv => ⟨puts_F _ _ v hv, rfl, rfl⟩) hx (by decide)).symm
    · have hx : nval xs s0 1 = 26 := by omega
      rw [hx, if_pos (by decide)] at hrd
      rw [dres_eq xs h20 hrd, hx]
      exact (plain6 (zs := [1, 2, 6, 2, 8, 8, 6, 2]) (M := mgA (26 - 16)) h20 rfl (fun v hv => ⟨puts_A _ _ v hv, rfl, rfl⟩) hx (by decide)).symm
    · have hx : nval xs s0 1 = 27 := by omega
      rw [hx, if_neg (by decide), if_neg (by decide), if_pos rfl] at hrd
      rw [hx]
      show rest6 xs 11 (go6 xs (pairsOf 11) 1 (start6 11)) = _
      have e1 : nst xs s0 1 = ⟨1, false⟩ := by
        have q : ¬ xs.length < 0 + 1 := by omega
        unfold nst s0
        simp only [Bool.false_or, decide_eq_true_eq]
        rw [if_neg q]
      obtain ⟨zs, hzs⟩ : ∃ zs : List Nat, zs = [1, 2, 6, 2, 8, 1, 1, 1, 6, 1] := ⟨_, rfl⟩
      have hP : (pairsOf 11).map Prod.snd = zs := by rw [hzs]; rfl
      have eN : run xs s0 zN = (27 :: ((run xs ⟨1, false⟩ zs).1 ++ [nval xs (run xs ⟨1, false⟩ zs).2 1]), nst xs (run xs ⟨1, false⟩ zs).2 1) := by
        have ha := run_app xs ⟨1, false⟩ zs [1]
        have e : run xs s0 zN = (nval xs s0 1 :: (run xs (nst xs s0 1) (zs ++ [1])).1, (run xs (nst xs s0 1) (zs ++ [1])).2) := by rw [hzs]; rfl
        rw [e, e1, hx, ha]
        rfl
      have hl := run_len xs ⟨1, false⟩ zs
      have hl10 : (run xs ⟨1, false⟩ zs).1.length = 10 := by rw [hl, hzs]; rfl
      obtain ⟨S, hS⟩ : ∃ S, S = (run xs ⟨1, false⟩ zs).2 := ⟨_, rfl⟩
      obtain ⟨V, hV⟩ : ∃ V, V = (run xs ⟨1, false⟩ zs).1 := ⟨_, rfl⟩
      rw [← hS, ← hV] at eN
      rw [← hV] at hl10
      have hc : clocks xs = nval xs S 1 := by
        unfold clocks
        rw [eN]
        obtain ⟨a, b, c, d, e, f, g, i, j, k, rfl⟩ := list10 hl10
        rfl
      have hpt : paths xs = run xs (nst xs S 1) (List.replicate (nval xs S 1).toNat 6) := by unfold paths; rw [eN, hc]
      have hs := go6_short xs (pairsOf 11) 1 (start6 11)
      rw [hP, ← hS] at hs
      unfold rest6
      cases hmi : S.mi with
      | true =>
        rw [hmi] at hs
        rw [if_pos hs]
        have hn1 : nval xs S 1 = 0 := by simp [nval, hmi]
        have hs1 : nst xs S 1 = ⟨S.k, true⟩ := by simp [nst, hmi]
        rw [hc, hn1, if_neg (by decide), hpt, hs1, hn1] at hrd
        rw [dres_eq xs h20 hrd]
        exact (dfin_mi (run_gone xs _ _)).symm
      | false =>
        have ho := go6_ok xs (pairsOf 11) 1 (start6 11) (by rw [hP, ← hS]; exact hmi)
        rw [hP, ← hS, ← hV] at ho
        rw [ho, if_neg (by simp), if_pos rfl]
        show path6 xs (puts (start6 11) ((pairsOf 11).map Prod.fst) V) S.k = _
        unfold path6
        by_cases g1 : xs.length ≤ S.k
        · rw [if_pos g1]
          have hn1 : nval xs S 1 = 0 := by simp [nval, hmi]; omega
          have hs1 : nst xs S 1 = ⟨S.k, true⟩ := by simp [nst, hmi]; omega
          rw [hc, hn1, if_neg (by decide), hpt, hs1, hn1] at hrd
          rw [dres_eq xs h20 hrd]
          exact (dfin_mi (run_gone xs _ _)).symm
        · rw [if_neg g1]
          have hn1 : nval xs S 1 = w64 (unum ((xs.drop S.k).take 1)) := by
            have : ¬ xs.length < S.k + 1 := by omega
            simp [nval, hmi, this]
          have hs1 : nst xs S 1 = ⟨S.k + 1, false⟩ := by
            have : ¬ xs.length < S.k + 1 := by omega
            simp [nst, hmi, this]
          rw [one_at (by omega)] at hn1
          obtain ⟨c, hcc⟩ : ∃ c, c = xs.getD S.k 0 := ⟨_, rfl⟩
          rw [← hcc] at hn1 ⊢
          have g0 : c < 9223372036854775808 := by have := Crc.getD_byte hb8 S.k; omega
          · rw [w64_low g0] at hn1
            rw [hc, hn1] at hrd
            by_cases g2 : 32 < c
            · rw [if_pos g2]
              rw [if_pos (by omega)] at hrd
              rw [dres_eq xs h20 hrd]
              rfl
            · rw [if_neg g2]
              rw [if_neg (by omega), hpt, hs1, hn1, Int.toNat_natCast] at hrd
              have hr2 := run_rep xs c (S.k + 1)
              by_cases g3 : xs.length < S.k + 1 + 6 * c
              · rw [if_pos g3, dres_eq xs h20 hrd]
                exact (dfin_mi (hr2.2 g3 (by omega))).symm
              · rw [if_neg g3]
                rw [hr2.1 (by omega), eN] at hrd
                rw [dres_eq xs h20 hrd]
                have hm : ofN (puts (start6 11) ((pairsOf 11).map Prod.fst) V) (pathR xs (S.k + 1) c) = mgN 11 (27 :: (V ++ [nval xs S 1])) (pathR xs (S.k + 1) c) := by
                  rw [show (pairsOf 11).map Prod.fst = [1, 2, 3, 4, 5, 10, 11, 12, 13, 14] from rfl, puts_N 11 27 (pathR xs (S.k + 1) c) V hl10]
                  obtain ⟨a, b, c, d, e, f, g, i, j, k, rfl⟩ := list10 hl10
                  rfl
                rw [hm]
                exact (dfin_ok rfl (by show (pathR xs (S.k + 1) c).length ≤ 32; rw [pathR_len]; omega)).symm

end Go.Proofs.Ytcdcklkbjfhhnaa
