/- What was put, time by time: their bag; what was read of a slice of times. -/
import Derived.Test.YtnddiobjojnckaaAgArg
import Derived.Test.YtnddiobjojnckaaAgLow
namespace Go.Proofs.Ytnddiobjojnckaa
open Go.RowKit Go.Joins

theorem low8 (n : Int) : bits .and .i64 n 255 = n % 256 := and_low n 8 (by omega)
theorem low16' (n : Int) : bits .and .i64 n 65535 = n % 65536 := and_low n 16 (by omega)
/-- The first times, by a mask; their numbers; their places. -/
def putS (M : Int) (xs : List Int) (k : Nat) : List (Int × Int × Int) := (List.range k).map fun (j : Nat) => (xs.getD j 0 % M, (j : Int) + 1, (j : Int))
theorem putS_succ (M : Int) (xs : List Int) (k : Nat) : putS M xs (k + 1) = putS M xs k ++ [(xs.getD k 0 % M, (k : Int) + 1, (k : Int))] := by unfold putS; rw [List.range_succ, List.map_append]; rfl
theorem putS_len (M : Int) (xs : List Int) (k : Nat) : (putS M xs k).length = k := by unfold putS; simp
theorem putS_mem {M : Int} {xs : List Int} {k : Nat} {m : Int × Int × Int} (h : m ∈ putS M xs k) : ∃ j : Nat, j < k ∧ m = (xs.getD j 0 % M, (j : Int) + 1, (j : Int)) := by
  unfold putS at h
  obtain ⟨j, hj, rfl⟩ := List.mem_map.1 h
  exact ⟨j, by simpa using hj, rfl⟩
theorem putS_in {M : Int} {xs : List Int} {k j : Nat} (h : j < k) : (xs.getD j 0 % M, (j : Int) + 1, (j : Int)) ∈ putS M xs k := by
  unfold putS
  exact List.mem_map.2 ⟨j, by simpa using h, rfl⟩
/-- No two numbers are one. -/
def Uniq (S : List (Int × Int × Int)) : Prop := S.Pairwise fun a b => a.2.1 ≠ b.2.1
theorem putS_uniq (M : Int) (xs : List Int) (k : Nat) : Uniq (putS M xs k) := by
  induction k with
  | zero => exact List.Pairwise.nil
  | succ k ih =>
    rw [putS_succ]
    refine List.pairwise_append.2 ⟨ih, List.pairwise_singleton _ _, fun a ha b hb => ?_⟩
    obtain ⟨j, hj, rfl⟩ := putS_mem ha
    simp at hb
    subst hb
    show (j : Int) + 1 ≠ (k : Int) + 1
    omega
theorem Uniq.perm {S T : List (Int × Int × Int)} (h : Uniq S) (hp : S.Perm T) : Uniq T := (hp.pairwise_iff (fun {a b} hab => fun e => hab e.symm)).1 h
/-- Behind the first one all are later. -/
theorem first_lt {S S' : List (Int × Int × Int)} {m : Int × Int × Int} (hu : Uniq S) (hp : (m :: S').Perm S) (hf : AgI.First S m) : Uniq S' ∧ ∀ s ∈ S', AgI.kLt m s := by
  have hu2 := hu.perm hp.symm
  have hc := List.pairwise_cons.1 hu2
  refine ⟨hc.2, fun s hs => ?_⟩
  have h1 := hc.1 s hs
  have h2 := hf.2 s (hp.mem_iff.1 (List.mem_cons_of_mem _ hs))
  unfold AgI.kLt at *
  omega

/-- One of the ints that are read. -/
theorem larg_at {w : World} {p : Option Addr} {n c : Nat} {xs : List Int} (h : LArg w (.slice p n c) xs) {k : Nat} (hk : k < xs.length) : ∃ b o, p = some ⟨b, o, none⟩ ∧ n = xs.length ∧ ∀ j, j < xs.length → w.cell? ⟨b, o + j, none⟩ = some (.int .i64 (xs.getD j 0)) := by
  rcases h.2 with ⟨rfl, _⟩ | ⟨h0, b, o, c', e, hc, hr⟩
  · simp at hk
  · injection e with e1 e2 e3
    exact ⟨b, o, e1, e2, (hr h0).2⟩
theorem larg_len {w : World} {p : Option Addr} {n c : Nat} {xs : List Int} (h : LArg w (.slice p n c) xs) : n = xs.length := by
  rcases h.2 with ⟨rfl, p, c, e, _⟩ | ⟨h0, b, o, c', e, hc, hr⟩
  · injection e with _ e2 _
  · injection e with _ e2 _

end Go.Proofs.Ytnddiobjojnckaa
