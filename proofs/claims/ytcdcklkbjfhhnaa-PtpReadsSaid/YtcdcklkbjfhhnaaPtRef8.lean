/- What the reference's Decode reads, in plain numbers. -/
import Derived.Test.YtcdcklkbjfhhnaaPtRef7
import Derived.Test.YtcdcklkbjfhhnaaPtDres
import Derived.Test.YtcdcklkbjfhhnaaPtRef5
namespace Go.Proofs.Ytcdcklkbjfhhnaa
open Go.RowKit Go.Joins

/-- The loop over the pairs: the numbers, how far it came, and whether some bytes are missing. -/
def go6 (xs : List Nat) : List (Nat × Nat) → Nat → List Int → List Int × Nat × Bool
  | [], k, N => (N, k, false)
  | q :: r, k, N => if xs.length < k + q.2 then (N, k, true) else go6 xs r (k + q.2) (N.set q.1 (w64 (unum ((xs.drop k).take q.2))))
/-- Numbers put to their places. -/
def puts : List Int → List Nat → List Int → List Int
  | N, a :: b, x :: y => puts (N.set a x) b y
  | N, _, _ => N
theorem run_gone (xs : List Nat) : ∀ (ns : List Nat) (k : Nat), (run xs ⟨k, true⟩ ns).2.mi = true
  | [], _ => rfl
  | n :: ns, k => by
    show (run xs (nst xs ⟨k, true⟩ n) ns).2.mi = true
    rw [show nst xs ⟨k, true⟩ n = ⟨k, true⟩ from by simp [nst]]
    exact run_gone xs ns k
theorem go6_short (xs : List Nat) : ∀ (P : List (Nat × Nat)) (k : Nat) (N : List Int), (go6 xs P k N).2.2 = (run xs ⟨k, false⟩ (P.map Prod.snd)).2.mi
  | [], _, _ => rfl
  | q :: r, k, N => by
    show _ = (run xs (nst xs ⟨k, false⟩ q.2) (r.map Prod.snd)).2.mi
    unfold go6
    by_cases h : xs.length < k + q.2
    · rw [if_pos h, show nst xs ⟨k, false⟩ q.2 = ⟨k, true⟩ from by simp [nst, h], run_gone]
    · rw [if_neg h, show nst xs ⟨k, false⟩ q.2 = ⟨k + q.2, false⟩ from by simp [nst, h]]
      exact go6_short xs r _ _
theorem go6_ok (xs : List Nat) : ∀ (P : List (Nat × Nat)) (k : Nat) (N : List Int), (run xs ⟨k, false⟩ (P.map Prod.snd)).2.mi = false →
    go6 xs P k N = (puts N (P.map Prod.fst) (run xs ⟨k, false⟩ (P.map Prod.snd)).1, (run xs ⟨k, false⟩ (P.map Prod.snd)).2.k, false)
  | [], _, _, _ => by simp [go6, puts, run]
  | q :: r, k, N, h => by
    have e : run xs ⟨k, false⟩ ((q :: r).map Prod.snd) = (nval xs ⟨k, false⟩ q.2 :: (run xs (nst xs ⟨k, false⟩ q.2) (r.map Prod.snd)).1, (run xs (nst xs ⟨k, false⟩ q.2) (r.map Prod.snd)).2) := rfl
    rw [e] at h ⊢
    unfold go6
    by_cases hh : xs.length < k + q.2
    · rw [show nst xs ⟨k, false⟩ q.2 = ⟨k, true⟩ from by simp [nst, hh]] at h
      have h2 := run_gone xs (r.map Prod.snd) k
      rw [show (run xs ⟨k, true⟩ (r.map Prod.snd)).2.mi = false from h] at h2
      cases h2
    · have e1 : nst xs ⟨k, false⟩ q.2 = ⟨k + q.2, false⟩ := by simp [nst, hh]
      have e2 : nval xs ⟨k, false⟩ q.2 = w64 (unum ((xs.drop k).take q.2)) := by simp [nval, hh]
      rw [e1] at h ⊢
      rw [e2, if_neg hh, List.map_cons]
      simp only [puts]
      exact go6_ok xs r _ _ h

/-- The numbers of a message of which nothing is read but the kind. -/
def start6 (k : Int) : List Int := (List.replicate 15 0).set 0 k
theorem puts_0 (k x : Int) : ∀ (v : List Int), v.length = 5 → puts (start6 k) [1, 2, 3, 4, 5] v = nums (mg0 k (x :: v))
  | [_, _, _, _, _], _ => by simp [puts, start6, nums, mg0]
theorem puts_A (k x : Int) : ∀ (v : List Int), v.length = 8 → puts (start6 k) [1, 2, 3, 4, 5, 6, 7, 8] v = nums (mgA k (x :: v))
  | [_, _, _, _, _, _, _, _], _ => by simp [puts, start6, nums, mgA]
theorem puts_F (k x : Int) : ∀ (v : List Int), v.length = 7 → puts (start6 k) [1, 2, 3, 4, 5, 6, 9] v = nums (mgF k (x :: v))
  | [_, _, _, _, _, _, _], _ => by simp [puts, start6, nums, mgF]
theorem puts_N (k x : Int) (p : List Int) : ∀ (v : List Int), v.length = 10 → puts (start6 k) [1, 2, 3, 4, 5, 10, 11, 12, 13, 14] v = nums (mgN k (x :: v) p)
  | [_, _, _, _, _, _, _, _, _, _], _ => by simp [puts, start6, nums, mgN]

end Go.Proofs.Ytcdcklkbjfhhnaa
