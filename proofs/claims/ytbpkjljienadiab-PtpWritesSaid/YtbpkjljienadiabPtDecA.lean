/- Package ptp: what Decode answers of whatever bytes. -/
import Derived.Test.YtbpkjljienadiabPtDec
import Derived.Test.YtbpkjljienadiabPtParse
namespace Go.Proofs.Ytbpkjljienadiab
open Go.RowKit Go.Joins

def s0 : St := ⟨0, false⟩
def zH : List Nat := [1, 1, 2, 6, 2, 8]
def zA : List Nat := zH ++ [8, 6, 2]
def zF : List Nat := zH ++ [8, 8]
def zN : List Nat := zH ++ [1, 1, 1, 6, 1, 1]
def mg0 (k : Int) (v : List Int) : Mg := ⟨k, v.getD 1 0, v.getD 2 0, v.getD 3 0, v.getD 4 0, v.getD 5 0, 0, 0, 0, 0, 0, 0, 0, 0, 0, []⟩
def mgA (k : Int) (v : List Int) : Mg := ⟨k, v.getD 1 0, v.getD 2 0, v.getD 3 0, v.getD 4 0, v.getD 5 0, v.getD 6 0, v.getD 7 0, v.getD 8 0, 0, 0, 0, 0, 0, 0, []⟩
def mgF (k : Int) (v : List Int) : Mg := ⟨k, v.getD 1 0, v.getD 2 0, v.getD 3 0, v.getD 4 0, v.getD 5 0, v.getD 6 0, 0, 0, v.getD 7 0, 0, 0, 0, 0, 0, []⟩
def mgN (k : Int) (v ps : List Int) : Mg := ⟨k, v.getD 1 0, v.getD 2 0, v.getD 3 0, v.getD 4 0, v.getD 5 0, 0, 0, 0, 0, v.getD 6 0, v.getD 7 0, v.getD 8 0, v.getD 9 0, v.getD 10 0, ps⟩
def clocks (xs : List Nat) : Int := (run xs s0 zN).1.getD 11 0
def paths (xs : List Nat) : List Int × St := run xs (run xs s0 zN).2 (List.replicate (clocks xs).toNat 6)
/-- What read answers. -/
def rd (xs : List Nat) : Nat × Mg × St :=
  if nval xs s0 1 < 16 ∨ 31 < nval xs s0 1 then (21, Mg.zero, nst xs s0 1)
  else if kindB (nval xs s0 1 - 16) = false then (23, Mg.zero, nst xs s0 1)
  else if nval xs s0 1 = 19 ∨ nval xs s0 1 = 26 then (0, mgA (nval xs s0 1 - 16) (run xs s0 zA).1, (run xs s0 zA).2)
  else if nval xs s0 1 = 24 then (0, mgF 8 (run xs s0 zF).1, (run xs s0 zF).2)
  else if nval xs s0 1 = 27 then
    if 32 < clocks xs then (4, Mg.zero, (run xs s0 zN).2) else (0, mgN 11 (run xs s0 zN).1 (paths xs).1, (paths xs).2)
  else (0, mg0 (nval xs s0 1 - 16) (run xs s0 zH).1, (run xs s0 zH).2)
/-- What Decode answers. -/
def dres (xs : List Nat) : Nat × Mg :=
  if xs.length < 20 then (20, Mg.zero)
  else if (rd xs).1 ≠ 0 then ((rd xs).1, Mg.zero)
  else if (rd xs).2.2.mi then (20, Mg.zero)
  else if (rd xs).2.2.k < xs.length then (24, Mg.zero)
  else if (rd xs).2.1.chk ≠ 0 then ((rd xs).2.1.chk, Mg.zero)
  else (0, (rd xs).2.1)

theorem nval_in {xs : List Nat} (hx : Crc.Bytes xs) (s : St) (n : Nat) (hn : n ≤ 8) : In64 (nval xs s n) := by
  unfold nval
  split
  · exact in64_0
  · have hb : Crc.Bytes ((xs.drop s.k).take n) := Crc.bytes_take (fun x hm => hx x (List.mem_of_mem_drop hm)) n
    have hl := unum_lt hb
    have h8 : ((xs.drop s.k).take n).length ≤ 8 := by rw [List.length_take]; omega
    have hp : 256 ^ ((xs.drop s.k).take n).length ≤ 256 ^ 8 := Nat.pow_le_pow_right (by decide) h8
    unfold In64 w64
    split <;> omega
theorem nval_byte {xs : List Nat} (hx : Crc.Bytes xs) (s : St) : 0 ≤ nval xs s 1 ∧ nval xs s 1 ≤ 255 := by
  unfold nval
  split
  · omega
  · have hb : Crc.Bytes ((xs.drop s.k).take 1) := Crc.bytes_take (fun x hm => hx x (List.mem_of_mem_drop hm)) 1
    have hl := unum_lt hb
    have h1 : ((xs.drop s.k).take 1).length ≤ 1 := by rw [List.length_take]; omega
    have hp : 256 ^ ((xs.drop s.k).take 1).length ≤ 256 ^ 1 := Nat.pow_le_pow_right (by decide) h1
    unfold w64
    split <;> omega
theorem run_in64 {xs : List Nat} (hx : Crc.Bytes xs) {ns : List Nat} (hn : ∀ n ∈ ns, n ≤ 8) (s : St) : ∀ v ∈ (run xs s ns).1, In64 v := by
  induction ns generalizing s with
  | nil => intro v hv; simp [run] at hv
  | cons n ns ih =>
    intro v hv
    rcases List.mem_cons.1 hv with h | h
    · rw [h]; exact nval_in hx s n (hn n (by simp))
    · exact ih (fun m hm => hn m (by simp [hm])) _ v h
theorem rep_succ (xs : List Nat) (s : St) (i : Nat) : (run xs s (List.replicate (i + 1) 6)).2 = nst xs (run xs s (List.replicate i 6)).2 6 := by
  rw [List.replicate_succ', run_app]; rfl
theorem rep_vals (xs : List Nat) (s : St) (C : Nat) : (run xs s (List.replicate C 6)).1 = (List.range C).map fun i => nval xs (run xs s (List.replicate i 6)).2 6 := by
  induction C with
  | zero => rfl
  | succ n ih => rw [List.replicate_succ', run_app, ih, List.range_succ, List.map_append]; rfl

theorem nxTo {w : World} {b o gm gr : Nat} {xs : List Nat} (hx : Crc.Bytes xs) (hr : Rd w b o xs) (hl : xs.length < 140737488355328) (s : St) (n : Nat) (h1 : 1 ≤ n) (h8 : n ≤ 8) : NxTo w b o xs gm gr s n (nval xs s n) (nst xs s n) :=
  fun _ hs => next_any n n rfl hs hx hr hl h1 h8
theorem nxTo_eq {w : World} {b o gm gr : Nat} {xs : List Nat} (hx : Crc.Bytes xs) (hr : Rd w b o xs) (hl : xs.length < 140737488355328) (s : St) (n : Nat) (h1 : 1 ≤ n) (h8 : n ≤ 8) (z : Int) (hz : nval xs s n = z) : NxTo w b o xs gm gr s n z (nst xs s n) := by
  subst hz; exact nxTo hx hr hl s n h1 h8
theorem rpost_to {w : World} {b o gm gr : Nat} {xs : List Nat} {W : World} {s : St} {m : Mg} {err : Int} {e : Ending} {w' : World} (hp : m.path = []) (h : RPost w b o xs gm gr W s m (.slice none 0 0) err e w') :
    ∃ p n c B, e = .returned (.tuple #[.agg (MC m (.slice p n c)), .int .i64 err]) ∧ NS w b o xs gm gr s w' ∧ Kept2 gm gr W w' ∧ OwnI B w' (.slice p n c) m.path :=
  ⟨none, 0, 0, w'.heap.size, h.1, h.2.1, h.2.2, by rw [hp]; exact OwnI.nil (Nat.le_refl _)⟩

set_option maxHeartbeats 1000000 in
theorem read_to (w : World) (b o gm gr : Nat) (xs : List Nat) (hx : Crc.Bytes xs) (hr : Rd w b o xs) (hl : xs.length < 140737488355328) : RdTo w b o xs gm gr (rd xs).2.1 ((rd xs).1 : Int) (rd xs).2.2 := fun W hs hw => by
  have N := fun s n h1 h8 => Lib.hid (nxTo (w := w) (gm := gm) (gr := gr) hx hr hl s n h1 h8)
  have hb := nval_byte hx s0
  have HS := Lib.hid hs
  unfold rd
  by_cases h1 : nval xs s0 1 < 16 ∨ 31 < nval xs s0 1
  · rw [if_pos h1]
    exact (read_form w b o xs gm gr W hw s0 _ _ HS (N s0 1 (by omega) (by omega)) (by omega)).mono fun e w' h => rpost_to rfl h
  rw [if_neg h1]
  cases hk : kindB (nval xs s0 1 - 16) with
  | false =>
    rw [if_pos rfl]
    exact (read_kind w b o xs gm gr W hw s0 _ _ HS (N s0 1 (by omega) (by omega)) (by omega) (by omega) (Lib.hid (kind_ret _ _ hk))).mono fun e w' h => rpost_to rfl h
  | true =>
  rw [if_neg (by simp)]
  have hk6 := kindB_iff.1 hk
  have E := fun z hz => Lib.hid (nxTo_eq (w := w) (gm := gm) (gr := gr) hx hr hl s0 1 (by omega) (by omega) z hz)
  have hkk : ∀ z : Int, nval xs s0 1 - 16 = z → Hid (RetQ 22 #[.int .i64 z] (.bool true)) := fun z hz => Lib.hid (kind_ret z true (by rw [← hz]; exact hk))
  have e : nval xs s0 1 = 16 ∨ nval xs s0 1 = 18 ∨ nval xs s0 1 = 19 ∨ nval xs s0 1 = 24 ∨ nval xs s0 1 = 26 ∨ nval xs s0 1 = 27 := by omega
  rcases e with e | e | e | e | e | e
  · rw [if_neg (by omega), if_neg (by omega), if_neg (by omega), e]
    exact (read_0 w b o xs gm gr W hw _ _ _ _ _ _ _ _ _ _ _ _ HS (hkk 0 (by omega)) (E 16 e) (N _ 1 (by omega) (by omega)) (N _ 2 (by omega) (by omega)) (N _ 6 (by omega) (by omega)) (N _ 2 (by omega) (by omega)) (N _ 8 (by omega) (by omega))).mono fun e w' h => rpost_to rfl h
  · rw [if_neg (by omega), if_neg (by omega), if_neg (by omega), e]
    exact (read_2 w b o xs gm gr W hw _ _ _ _ _ _ _ _ _ _ _ _ HS (hkk 2 (by omega)) (E 18 e) (N _ 1 (by omega) (by omega)) (N _ 2 (by omega) (by omega)) (N _ 6 (by omega) (by omega)) (N _ 2 (by omega) (by omega)) (N _ 8 (by omega) (by omega))).mono fun e w' h => rpost_to rfl h
  · rw [if_pos (by omega), e]
    exact (read_3 w b o xs gm gr W hw _ _ _ _ _ _ _ _ _ _ _ _ _ _ _ _ _ _ HS (hkk 3 (by omega)) (E 19 e) (N _ 1 (by omega) (by omega)) (N _ 2 (by omega) (by omega)) (N _ 6 (by omega) (by omega)) (N _ 2 (by omega) (by omega)) (N _ 8 (by omega) (by omega)) (N _ 8 (by omega) (by omega)) (N _ 6 (by omega) (by omega)) (N _ 2 (by omega) (by omega))).mono fun e w' h => rpost_to rfl h
  · rw [if_neg (by omega), if_pos e]
    exact (read_8 w b o xs gm gr W hw _ _ _ _ _ _ _ _ _ _ _ _ _ _ _ _ HS (hkk 8 (by omega)) (E 24 e) (N _ 1 (by omega) (by omega)) (N _ 2 (by omega) (by omega)) (N _ 6 (by omega) (by omega)) (N _ 2 (by omega) (by omega)) (N _ 8 (by omega) (by omega)) (N _ 8 (by omega) (by omega)) (N _ 8 (by omega) (by omega))).mono fun e w' h => rpost_to rfl h
  · rw [if_pos (by omega), e]
    exact (read_10 w b o xs gm gr W hw _ _ _ _ _ _ _ _ _ _ _ _ _ _ _ _ _ _ HS (hkk 10 (by omega)) (E 26 e) (N _ 1 (by omega) (by omega)) (N _ 2 (by omega) (by omega)) (N _ 6 (by omega) (by omega)) (N _ 2 (by omega) (by omega)) (N _ 8 (by omega) (by omega)) (N _ 8 (by omega) (by omega)) (N _ 6 (by omega) (by omega)) (N _ 2 (by omega) (by omega))).mono fun e w' h => rpost_to rfl h
  · rw [if_neg (by omega), if_neg (by omega), if_pos e]
    by_cases hC : 32 < clocks xs
    · rw [if_pos hC]
      exact (read_many w b o xs gm gr W hw _ _ _ _ _ _ _ _ _ _ _ _ _ _ _ _ _ _ _ _ _ _ _ _ HS (hkk 11 (by omega)) (E 27 e) (N _ 1 (by omega) (by omega)) (N _ 2 (by omega) (by omega)) (N _ 6 (by omega) (by omega)) (N _ 2 (by omega) (by omega)) (N _ 8 (by omega) (by omega)) (N _ 1 (by omega) (by omega)) (N _ 1 (by omega) (by omega)) (N _ 1 (by omega) (by omega)) (N _ 6 (by omega) (by omega)) (N _ 1 (by omega) (by omega)) (N _ 1 (by omega) (by omega)) hC).mono fun e w' h => rpost_to rfl h
    · rw [if_neg hC]
      have hc0 : 0 ≤ clocks xs := (nval_byte hx (run xs s0 [1, 1, 2, 6, 2, 8, 1, 1, 1, 6, 1]).2).1
      refine (read_11 w b o xs gm gr W hw _ _ _ _ _ _ _ _ _ _ _ _ _ _ _ _ _ _ _ _ _ _ _ (clocks xs).toNat (fun i => (run xs (run xs s0 zN).2 (List.replicate i 6)).2) (fun i => nval xs (run xs (run xs s0 zN).2 (List.replicate i 6)).2 6) (by omega) rfl (clocks xs) (by omega) HS (hkk 11 (by omega)) (E 27 e) (N _ 1 (by omega) (by omega)) (N _ 2 (by omega) (by omega)) (N _ 6 (by omega) (by omega)) (N _ 2 (by omega) (by omega)) (N _ 8 (by omega) (by omega)) (N _ 1 (by omega) (by omega)) (N _ 1 (by omega) (by omega)) (N _ 1 (by omega) (by omega)) (N _ 6 (by omega) (by omega)) (N _ 1 (by omega) (by omega)) (N _ 1 (by omega) (by omega)) (Lib.hid fun i _ => ?_) (Lib.hid fun i => nval_in hx _ 6 (by omega))).mono fun e w' h => ?_
      · rw [rep_succ]; exact (N _ 6 (by omega) (by omega)).out
      · obtain ⟨p, n, c, k1, k2, k3, k4⟩ := h
        refine ⟨p, n, c, W.heap.size, k1, k2, k3, ?_⟩
        have hpv : (paths xs).1 = _ := rep_vals xs (run xs s0 zN).2 (clocks xs).toNat
        show OwnI _ w' (.slice p n c) (paths xs).1
        rw [hpv]; exact k4

theorem getD_in {l : List Int} (h : ∀ x ∈ l, In64 x) (k : Nat) : In64 (l.getD k 0) := in_getD h k
theorem rd_wf {xs : List Nat} (hx : Crc.Bytes xs) : (rd xs).2.1.Wf := by
  have z : Mg.zero.Wf := ⟨in64_0, in64_0, in64_0, in64_0, in64_0, in64_0, in64_0, in64_0, in64_0, in64_0, in64_0, in64_0, in64_0, in64_0, in64_0, fun x hx => by simp [Mg.zero] at hx⟩
  have n0 : ∀ x ∈ ([] : List Int), In64 x := fun x hx => by simp at hx
  have hb := nval_byte hx s0
  have hk : In64 (nval xs s0 1 - 16) := ⟨by omega, by omega⟩
  have hH := run_in64 hx (ns := zH) (by decide) s0
  have hA := run_in64 hx (ns := zA) (by decide) s0
  have hF := run_in64 hx (ns := zF) (by decide) s0
  have hN := run_in64 hx (ns := zN) (by decide) s0
  have hP : ∀ v ∈ (paths xs).1, In64 v := run_in64 hx (ns := List.replicate (clocks xs).toNat 6) (fun n hn => by rw [(List.mem_replicate.1 hn).2]; decide) _
  unfold rd
  split
  · exact z
  split
  · exact z
  split
  · exact ⟨hk, getD_in hA 1, getD_in hA 2, getD_in hA 3, getD_in hA 4, getD_in hA 5, getD_in hA 6, getD_in hA 7, getD_in hA 8, in64_0, in64_0, in64_0, in64_0, in64_0, in64_0, n0⟩
  split
  · exact ⟨(show In64 8 from ⟨by decide, by decide⟩), getD_in hF 1, getD_in hF 2, getD_in hF 3, getD_in hF 4, getD_in hF 5, getD_in hF 6, in64_0, in64_0, getD_in hF 7, in64_0, in64_0, in64_0, in64_0, in64_0, n0⟩
  split
  · split
    · exact z
    · exact ⟨(show In64 11 from ⟨by decide, by decide⟩), getD_in hN 1, getD_in hN 2, getD_in hN 3, getD_in hN 4, getD_in hN 5, in64_0, in64_0, in64_0, in64_0, getD_in hN 6, getD_in hN 7, getD_in hN 8, getD_in hN 9, getD_in hN 10, hP⟩
  · exact ⟨hk, getD_in hH 1, getD_in hH 2, getD_in hH 3, getD_in hH 4, getD_in hH 5, in64_0, in64_0, in64_0, in64_0, in64_0, in64_0, in64_0, in64_0, in64_0, n0⟩
theorem rd_path {xs : List Nat} : (rd xs).2.1.path.length ≤ 32 := by
  unfold rd
  split
  · exact Nat.zero_le _
  split
  · exact Nat.zero_le _
  split
  · exact Nat.zero_le _
  split
  · exact Nat.zero_le _
  split
  · split
    · exact Nat.zero_le _
    · rename_i h
      show (paths xs).1.length ≤ 32
      unfold paths
      rw [rep_vals, List.length_map, List.length_range]
      omega
  · exact Nat.zero_le _
theorem ns_le {w0 W : World} {b o gm gr : Nat} {xs : List Nat} {s : St} (h : NS w0 b o xs gm gr s W) : s.k ≤ xs.length := h.2.2.2.1
theorem nst_le {xs : List Nat} {s : St} {n : Nat} (h : s.k ≤ xs.length) : (nst xs s n).k ≤ xs.length := by
  unfold nst
  split
  · exact h
  · rename_i hc
    simp only [Bool.or_eq_true, decide_eq_true_eq, not_or] at hc
    show s.k + n ≤ _; omega
theorem run_le {xs : List Nat} {ns : List Nat} {s : St} (h : s.k ≤ xs.length) : (run xs s ns).2.k ≤ xs.length := by
  induction ns generalizing s with
  | nil => exact h
  | cons n ns ih => exact ih (nst_le h)
theorem le_21 {e : Nat} {m : Mg} {s : St} {n : Nat} (h : s.k ≤ n) : (e, m, s).2.2.k ≤ n := h
theorem rd_le (xs : List Nat) : (rd xs).2.2.k ≤ xs.length := by
  have h0 : s0.k ≤ xs.length := Nat.zero_le _
  obtain ⟨r, hr⟩ : ∃ r, r = rd xs := ⟨_, rfl⟩
  rw [← hr]
  unfold rd at hr
  split at hr
  · rw [hr]; exact le_21 (nst_le h0)
  split at hr
  · rw [hr]; exact le_21 (nst_le h0)
  split at hr
  · rw [hr]; exact le_21 (run_le h0)
  split at hr
  · rw [hr]; exact le_21 (run_le h0)
  split at hr
  · split at hr
    · rw [hr]; exact le_21 (run_le h0)
    · rw [hr]; exact le_21 (run_le (run_le h0))
  · rw [hr]; exact le_21 (run_le h0)

set_option maxRecDepth 100000 in
/-- Decode, whatever the bytes. -/
theorem decode_any {v : Value} {xs : List Nat} {w : World} (h : BArg w v xs) (hl : xs.length < 140737488355328) :
    Calls Try.prog 14 #[v] w (DecR w (dres xs).2 ((dres xs).1 : Int)) := by
  unfold dres
  rcases Nat.lt_or_ge xs.length 20 with h20 | h20
  · obtain ⟨p, c, rfl⟩ := h.slice
    rw [if_pos h20]
    exact dec_short p _ c h20 w
  rw [if_neg (by omega)]
  have hx := h.1
  rcases h.2 with ⟨e, _⟩ | ⟨h0, b, o, c, rfl, hc, hr⟩
  · rw [e] at h20; simp at h20
  have HR := Lib.hid (read_to w b o (w.heap.size + 1 + 1) (w.heap.size + 1) xs hx hr hl)
  have hwf := rd_wf hx
  have hpl := rd_path (xs := xs)
  have hle := rd_le xs
  generalize rd xs = r at HR hwf hpl hle ⊢
  obtain ⟨err, m, s⟩ := r
  dsimp only at *
  by_cases he : err = 0
  · subst he
    rw [if_neg (by simp)]
    cases hmi : s.mi with
    | true => rw [if_pos rfl]; exact dec_miss w b o c xs h20 hl hc m s hmi HR
    | false =>
      rw [if_neg (by simp)]
      rcases Nat.lt_or_ge s.k xs.length with hk | hk
      · rw [if_pos hk]; exact dec_trail w b o c xs h20 hl hc m s hmi hk HR
      rw [if_neg (by omega)]
      by_cases h1 : m.chk = 0
      · rw [if_neg (by simp [h1])]
        exact dec_good w b o c xs h20 hl hc m s hmi (by omega) HR (Lib.hid fun W v hv => by
          have := check_any m v W hwf hv (by omega)
          rw [h1] at this
          exact this)
      · rw [if_pos h1]
        exact dec_wrong w b o c xs h20 hl hc m s hmi (by omega) m.chk (by rw [bne_iff_ne]; omega) HR (Lib.hid fun W v hv => check_any m v W hwf hv (by omega))
  · rw [if_pos he]
    exact dec_err w b o c xs h20 hl hc m s err (by rw [bne_iff_ne]; omega) HR

end Go.Proofs.Ytbpkjljienadiab
