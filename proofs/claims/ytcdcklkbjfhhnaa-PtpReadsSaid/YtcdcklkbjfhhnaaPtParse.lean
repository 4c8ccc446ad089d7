/- What bytes tell: numbers read one behind the other, and laid again. -/
import Derived.Test.YtcdcklkbjfhhnaaPtNext
namespace Go.Proofs.Ytcdcklkbjfhhnaa
open Go.RowKit Go.Joins

/-- A number that so many bytes hold. -/
def FitN (n : Nat) (x : Int) : Prop := (n = 1 ∧ 0 ≤ x ∧ x ≤ 255) ∨ (n = 2 ∧ 0 ≤ x ∧ x ≤ 65535) ∨ (n = 6 ∧ 0 ≤ x ∧ x ≤ 281474976710655) ∨ (n = 8 ∧ In64 x)
theorem w64_be {n : Nat} {x : Int} (h : FitN n x) : w64 (unum (be n x)) = x := by
  rcases h with ⟨rfl, h⟩ | ⟨rfl, h⟩ | ⟨rfl, h⟩ | ⟨rfl, h⟩
  · rw [unum_be1]; unfold w64; split <;> omega
  · rw [unum_be2]; unfold w64; split <;> omega
  · rw [unum_be6]; unfold w64; split <;> omega
  · unfold In64 at h; rw [unum_be8]; unfold w64; split <;> omega
/-- What was read is laid as it was. -/
theorem be_unum (l : List Nat) (h : Crc.Bytes l) (z : Int) (hz : ∃ q : Int, z = (unum l : Int) + 256 ^ l.length * q) : be l.length z = l := by
  induction hn : l.length generalizing l z with
  | zero => rw [List.eq_nil_of_length_eq_zero hn]; rfl
  | succ n ih =>
    obtain ⟨q, hz⟩ := hz
    have hne : l ≠ [] := fun e => by rw [e] at hn; simp at hn
    have hl : l = l.dropLast ++ [l.getLast hne] := (List.dropLast_concat_getLast hne).symm
    have hd : l.getLast hne < 256 := h _ (List.getLast_mem hne)
    have hu : unum l = unum l.dropLast * 256 + l.getLast hne := by conv => lhs; rw [hl]; rw [unum_snoc]
    have hdl : l.dropLast.length = n := by rw [List.length_dropLast, hn]; rfl
    rw [be_succ]
    have hp : (256 : Int) ^ (n + 1) * q = 256 * (256 ^ n * q) := by rw [Int.pow_succ, Int.mul_comm ((256 : Int) ^ n) 256, Int.mul_assoc]
    rw [hn, hp, hu] at hz
    obtain ⟨r, hr⟩ : ∃ r, r = (256 : Int) ^ n * q := ⟨_, rfl⟩
    rw [← hr] at hz
    have e1 : z / 256 = (unum l.dropLast : Int) + r := by omega
    have e2 : (z % 256).toNat = l.getLast hne := by omega
    rw [e2]
    have := ih l.dropLast (fun x hx => h x (List.dropLast_subset l hx)) (z / 256) ⟨q, by rw [e1, hdl, hr]⟩ hdl
    rw [this]
    exact hl.symm
theorem be_w64 (l : List Nat) (h : Crc.Bytes l) (hl : l.length ≤ 8) : be l.length (w64 (unum l)) = l := by
  refine be_unum l h _ ?_
  unfold w64
  split
  · exact ⟨0, by simp⟩
  · rename_i h1
    have h8 : l.length = 8 := by
      rcases Nat.lt_or_ge l.length 8 with h2 | h2
      · have := unum_small h (by omega); omega
      · omega
    exact ⟨-1, by rw [h8]; omega⟩
theorem w64_fit (l : List Nat) (h : Crc.Bytes l) (hn : l.length = 1 ∨ l.length = 2 ∨ l.length = 6 ∨ l.length = 8) : FitN l.length (w64 (unum l)) := by
  have hlt := unum_lt h
  unfold FitN In64 w64
  rcases hn with e | e | e | e <;> rw [e] at hlt ⊢
  · refine .inl ⟨rfl, ?_⟩; simp at hlt; split <;> omega
  · refine .inr (.inl ⟨rfl, ?_⟩); simp at hlt; split <;> omega
  · refine .inr (.inr (.inl ⟨rfl, ?_⟩)); simp at hlt; split <;> omega
  · refine .inr (.inr (.inr ⟨rfl, ?_⟩)); simp at hlt; split <;> omega

/-- Numbers one behind the other. -/
def run (xs : List Nat) : St → List Nat → List Int × St
  | s, [] => ([], s)
  | s, n :: ns => (nval xs s n :: (run xs (nst xs s n) ns).1, (run xs (nst xs s n) ns).2)
def lay : List Nat → List Int → List Nat
  | n :: ns, x :: xs => be n x ++ lay ns xs
  | _, _ => []
theorem nst_ok {xs : List Nat} {s : St} {n : Nat} (h : (nst xs s n).mi = false) : s.mi = false ∧ s.k + n ≤ xs.length ∧ nst xs s n = ⟨s.k + n, false⟩ := by
  unfold nst at *
  split at h
  · simp at h
  · rename_i hc
    simp only [Bool.or_eq_true, decide_eq_true_eq, not_or, Bool.not_eq_true] at hc
    exact ⟨hc.1, by omega, by rw [if_neg (by simp [hc])]⟩
theorem nval_ok {xs : List Nat} {s : St} {n : Nat} (h : (nst xs s n).mi = false) : nval xs s n = w64 (unum ((xs.drop s.k).take n)) := by
  obtain ⟨h1, h2, _⟩ := nst_ok h
  unfold nval
  rw [if_neg (by simp [h1]; omega)]
theorem run_mi {xs : List Nat} {ns : List Nat} {s : St} (h : (run xs s ns).2.mi = false) : s.mi = false := by
  induction ns generalizing s with
  | nil => exact h
  | cons n ns ih => exact (nst_ok (ih h)).1
/-- What was read to the end is what stands there. -/
theorem run_back {xs : List Nat} {ns : List Nat} {s : St} (h : (run xs s ns).2.mi = false) :
    (run xs s ns).2.k = s.k + ns.sum ∧ s.k + ns.sum ≤ xs.length ∨ ns = [] ∧ (run xs s ns).2 = s := by
  induction ns generalizing s with
  | nil => exact .inr ⟨rfl, rfl⟩
  | cons n ns ih =>
    have h2 : (run xs (nst xs s n) ns).2.mi = false := h
    obtain ⟨k1, k2, k3⟩ := nst_ok (run_mi h2)
    refine .inl ?_
    rcases ih h2 with ⟨e, he⟩ | ⟨e, he⟩
    · rw [k3] at e he
      refine ⟨?_, ?_⟩
      · show (run xs (nst xs s n) ns).2.k = _
        rw [k3, e]; simp only [List.sum_cons]; omega
      · simp only [List.sum_cons]; simp only at he; omega
    · subst e
      refine ⟨?_, ?_⟩
      · show (nst xs s n).k = _
        rw [k3]; simp
      · simp; omega
theorem run_lay {xs : List Nat} (hx : Crc.Bytes xs) {ns : List Nat} (hn : ∀ n ∈ ns, n ≤ 8) {s : St} (h : (run xs s ns).2.mi = false) :
    xs.take s.k ++ lay ns (run xs s ns).1 = xs.take (run xs s ns).2.k := by
  induction ns generalizing s with
  | nil => simp [run, lay]
  | cons n ns ih =>
    have h2 : (run xs (nst xs s n) ns).2.mi = false := h
    obtain ⟨k1, k2, k3⟩ := nst_ok (run_mi h2)
    have := ih (fun m hm => hn m (by simp [hm])) h2
    show xs.take s.k ++ (be n (nval xs s n) ++ lay ns (run xs (nst xs s n) ns).1) = xs.take (run xs (nst xs s n) ns).2.k
    rw [← this, k3, ← List.append_assoc]
    congr 1
    rw [nval_ok (run_mi h2)]
    have hlen : ((xs.drop s.k).take n).length = n := by rw [List.length_take, List.length_drop]; omega
    have hb := be_w64 ((xs.drop s.k).take n) (Crc.bytes_take (fun x hm => hx x (List.mem_of_mem_drop hm)) n) (by rw [hlen]; exact hn n (by simp))
    rw [hlen] at hb
    rw [hb]
    exact (List.take_add (l := xs) (i := s.k) (j := n)).symm
/-- What was laid is read as it was. -/
theorem run_fwd {xs : List Nat} {ns : List Nat} {vs : List Int} {s : St} {rest : List Nat} (hs : s.mi = false) (hk : s.k ≤ xs.length) (hl : ns.length = vs.length) (hf : ∀ i, i < ns.length → FitN (ns.getD i 0) (vs.getD i 0)) (hd : xs.drop s.k = lay ns vs ++ rest) :
    run xs s ns = (vs, ⟨s.k + ns.sum, false⟩) ∧ xs.drop (s.k + ns.sum) = rest ∧ s.k + ns.sum ≤ xs.length := by
  induction ns generalizing vs s with
  | nil =>
    have : vs = [] := List.eq_nil_of_length_eq_zero hl.symm
    subst this
    obtain ⟨k, mi⟩ := s
    subst hs
    refine ⟨rfl, ?_, hk⟩
    simpa [lay] using hd
  | cons n ns ih =>
    cases vs with
    | nil => simp at hl
    | cons v vs =>
      have hf0 := hf 0 (by simp)
      simp only [List.getD_cons_zero] at hf0
      have hd' : xs.drop s.k = be n v ++ (lay ns vs ++ rest) := by rw [hd]; simp [lay]
      have hlen : s.k + n ≤ xs.length := by
        have := congrArg List.length hd'
        rw [List.length_drop, List.length_append, be_len] at this
        omega
      have hst : nst xs s n = ⟨s.k + n, false⟩ := by unfold nst; rw [if_neg (by simp [hs]; omega)]
      have hva : nval xs s n = v := by
        unfold nval
        rw [if_neg (by simp [hs]; omega), hd', List.take_append_of_le_length (by rw [be_len]; exact Nat.le_refl _), List.take_of_length_le (by rw [be_len]; exact Nat.le_refl _)]
        exact w64_be hf0
      have hdr : xs.drop (s.k + n) = lay ns vs ++ rest := by
        rw [← List.drop_drop, hd', List.drop_append_of_le_length (by rw [be_len]; exact Nat.le_refl _), List.drop_of_length_le (by rw [be_len]; exact Nat.le_refl _), List.nil_append]
      have := ih (vs := vs) (s := ⟨s.k + n, false⟩) rfl hlen (by simpa using hl) (fun i hi => by
        have := hf (i + 1) (by simp; omega)
        simpa using this) hdr
      obtain ⟨r1, r2, r3⟩ := this
      refine ⟨?_, ?_, ?_⟩
      · show (nval xs s n :: (run xs (nst xs s n) ns).1, (run xs (nst xs s n) ns).2) = _
        rw [hst, r1, hva]
        simp only [List.sum_cons]
        rw [Nat.add_assoc]
      · rw [List.sum_cons, ← Nat.add_assoc]; exact r2
      · rw [List.sum_cons, ← Nat.add_assoc]; exact r3
theorem run_app (xs : List Nat) (s : St) (a c : List Nat) : run xs s (a ++ c) = ((run xs s a).1 ++ (run xs (run xs s a).2 c).1, (run xs (run xs s a).2 c).2) := by
  induction a generalizing s with
  | nil => rfl
  | cons n a ih =>
    show (nval xs s n :: (run xs (nst xs s n) (a ++ c)).1, (run xs (nst xs s n) (a ++ c)).2) = _
    rw [ih]; rfl

end Go.Proofs.Ytcdcklkbjfhhnaa
