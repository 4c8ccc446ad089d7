/- Lists of gates in plain numbers: the slot of a time, and for how long a gate stays as it is. -/
import Derived.Test.YtllmfkodgalklaaRows
namespace Go.Proofs.Ytllmfkodgalklaa


/-- What is open in a slot, and how long it is. -/
def tA (ts : List (Int × Int)) (k : Nat) : Int := (ts.getD k (0, 0)).1
def tR (ts : List (Int × Int)) (k : Nat) : Int := (ts.getD k (0, 0)).2
theorem drop_cons {ts : List (Int × Int)} {k : Nat} (h : k < ts.length) : ts.drop k = (tA ts k, tR ts k) :: ts.drop (k + 1) := by
  rw [List.drop_eq_getElem_cons h]
  unfold tA tR
  rw [List.getD_eq_getElem?_getD, List.getElem?_eq_getElem h]; rfl
/-- What the slots ahead of one come to. -/
def pre (ts : List (Int × Int)) : Nat → Int
  | 0 => 0
  | k + 1 => pre ts k + tR ts k
/-- How far in its cycle a time is. -/
def gone (b c x : Int) : Int := (x - b) % c
structure Good (b c : Int) (ts : List (Int × Int)) : Prop where
  pos : 0 < ts.length
  len : ts.length ≤ 64
  c0 : 1 ≤ c
  c1 : c ≤ 1073741824
  b0 : 0 ≤ b
  b1 : b ≤ 1099511627776
  op : ∀ k, k < ts.length → 0 ≤ tA ts k ∧ tA ts k ≤ 255
  ln : ∀ k, k < ts.length → 1 ≤ tR ts k ∧ tR ts k ≤ 1073741824
  sum : pre ts ts.length ≤ c
theorem gone_bd {b c : Int} (x : Int) (h : 1 ≤ c) : 0 ≤ gone b c x ∧ gone b c x < c := ⟨Int.emod_nonneg _ (by omega), Int.emod_lt_of_pos _ (by omega)⟩
theorem gone_cycle (b c x : Int) : gone b c (x + c) = gone b c x := by
  unfold gone
  rw [show x + c - b = x - b + c by omega, Int.add_emod_right]
theorem gone_shift (b c x y : Int) : gone (b + y) c (x + y) = gone b c x := by
  unfold gone
  rw [show x + y - (b + y) = x - b by omega]
/-- The greatest slot, up to m, that begins at g or sooner. -/
def ixD (ts : List (Int × Int)) (g : Int) : Nat → Nat
  | 0 => 0
  | m + 1 => if pre ts (m + 1) ≤ g then m + 1 else ixD ts g m
def slotI (ts : List (Int × Int)) (g : Int) : Nat := ixD ts g (ts.length - 1)
def st (ts : List (Int × Int)) (g : Int) : Int := tA ts (slotI ts g)
/-- Where a slot ends. -/
def endOf (c : Int) (ts : List (Int × Int)) (i : Nat) : Int := if i + 1 < ts.length then pre ts (i + 1) else c
def longI (c : Int) (ts : List (Int × Int)) (i : Nat) : Int := if i + 1 < ts.length then tR ts i else c - pre ts i
/-- Where a slot of any cycle behind begins. -/
def up (c : Int) (ts : List (Int × Int)) (j : Nat) : Int := ((j / ts.length : Nat) : Int) * c + pre ts (j % ts.length)
def bitA (ts : List (Int × Int)) (gate : Nat) (i : Nat) : Int := tA ts i / ((2 ^ gate : Nat) : Int) % 2
def search (p : Nat → Bool) : Nat → Nat → Option Nat
  | _, 0 => none
  | k, f + 1 => if p k = true then some k else search p (k + 1) f
def isB (ts : List (Int × Int)) (gate : Nat) (bit : Int) (j : Nat) : Bool := !decide (bitA ts gate (j % ts.length) = bit)
def stayV (c : Int) (ts : List (Int × Int)) (g : Int) (gate : Nat) (bit : Int) : Int :=
  match search (isB ts gate bit) (slotI ts g) ts.length with
  | some j => max (up c ts j - g) 0
  | none => 2147483648

theorem pre_succ (ts : List (Int × Int)) (k : Nat) : pre ts (k + 1) = pre ts k + tR ts k := rfl
section
variable {b c : Int} {ts : List (Int × Int)}
theorem Good.pre0 (h : Good b c ts) : ∀ k, k ≤ ts.length → 0 ≤ pre ts k
  | 0, _ => by simp [pre]
  | k + 1, hk => by
    have := h.pre0 k (by omega)
    have := h.ln k (by omega)
    rw [pre_succ]; omega
theorem Good.preLt (h : Good b c ts) {i : Nat} : ∀ k, i < k → k ≤ ts.length → pre ts i < pre ts k
  | 0, hi, _ => by omega
  | k + 1, hi, hk => by
    have := h.ln k (by omega)
    rw [pre_succ]
    rcases Nat.lt_or_ge i k with g | g
    · have := h.preLt k g (by omega)
      omega
    · rw [show i = k by omega]; omega
theorem Good.preLe (h : Good b c ts) {i k : Nat} (hi : i ≤ k) (hk : k ≤ ts.length) : pre ts i ≤ pre ts k := by
  rcases Nat.lt_or_ge i k with g | g
  · have := h.preLt k g hk; omega
  · rw [show i = k by omega]; omega
theorem Good.preC (h : Good b c ts) {k : Nat} (hk : k ≤ ts.length) : pre ts k ≤ c := Int.le_trans (h.preLe hk (Nat.le_refl _)) h.sum
theorem ixD_le (ts : List (Int × Int)) (g : Int) : ∀ m, ixD ts g m ≤ m
  | 0 => Nat.le_refl _
  | m + 1 => by
    unfold ixD
    split
    · omega
    · have := ixD_le ts g m; omega
theorem ixD_start (ts : List (Int × Int)) {g : Int} (h0 : 0 ≤ g) : ∀ m, pre ts (ixD ts g m) ≤ g
  | 0 => by simpa [ixD, pre] using h0
  | m + 1 => by
    unfold ixD
    split
    · assumption
    · exact ixD_start ts h0 m
theorem ixD_next (ts : List (Int × Int)) (g : Int) : ∀ m, ixD ts g m < m → g < pre ts (ixD ts g m + 1)
  | 0, h => by omega
  | m + 1, h => by
    unfold ixD at h ⊢
    split at h
    · omega
    · rename_i hn
      rw [if_neg hn]
      rcases Nat.lt_or_ge (ixD ts g m) m with k | k
      · exact ixD_next ts g m k
      · have := ixD_le ts g m
        rw [show ixD ts g m = m by omega]; omega
/-- It is the only one. -/
theorem Good.slot_is (h : Good b c ts) {g : Int} {i : Nat} (hi : i < ts.length) (h1 : pre ts i ≤ g) (h2 : i + 1 < ts.length → g < pre ts (i + 1)) : slotI ts g = i := by
  have p := h.pos
  have a0 := ixD_le ts g (ts.length - 1)
  have a1 := ixD_start ts (g := g) (Int.le_trans (h.pre0 i (by omega)) h1) (ts.length - 1)
  have a2 := ixD_next ts g (ts.length - 1)
  unfold slotI
  generalize ixD ts g (ts.length - 1) = k at *
  rcases Nat.lt_trichotomy k i with q | q | q
  · have := a2 (by omega)
    have := h.preLe (i := k + 1) (k := i) (by omega) (by omega)
    omega
  · exact q
  · have := h2 (by omega)
    have := h.preLe (i := i + 1) (k := k) (by omega) (by omega)
    omega
theorem Good.slot_lt (h : Good b c ts) (g : Int) : slotI ts g < ts.length := by
  have := ixD_le ts g (ts.length - 1)
  have := h.pos
  unfold slotI; omega
theorem Good.slot_start (_ : Good b c ts) {g : Int} (h0 : 0 ≤ g) : pre ts (slotI ts g) ≤ g := ixD_start ts h0 _
theorem Good.slot_end (_ : Good b c ts) {g : Int} (h1 : g < c) : g < endOf c ts (slotI ts g) := by
  unfold endOf
  split
  · exact ixD_next ts g _ (by unfold slotI at *; omega)
  · exact h1
theorem search_some {p : Nat → Bool} {j : Nat} : ∀ f k, search p k f = some j → k ≤ j ∧ j < k + f ∧ p j = true ∧ ∀ i, k ≤ i → i < j → p i = false
  | 0, k, h => by simp [search] at h
  | f + 1, k, h => by
    unfold search at h
    split at h
    · injection h with h
      subst h
      exact ⟨Nat.le_refl _, by omega, by assumption, fun i a b => by omega⟩
    · rename_i hn
      obtain ⟨a, b, d, e⟩ := search_some f (k + 1) h
      refine ⟨by omega, by omega, d, fun i h1 h2 => ?_⟩
      rcases Nat.lt_or_ge k i with q | q
      · exact e i q h2
      · rw [show i = k by omega]; simpa using hn
theorem search_none {p : Nat → Bool} : ∀ f k, search p k f = none → ∀ i, k ≤ i → i < k + f → p i = false
  | 0, k, _, i, a, b => by omega
  | f + 1, k, h, i, a, b => by
    unfold search at h
    split at h
    · cases h
    · rename_i hn
      rcases Nat.lt_or_ge k i with q | q
      · exact search_none f (k + 1) h i q (by omega)
      · rw [show i = k by omega]; simpa using hn
theorem search_is {p : Nat → Bool} {j : Nat} : ∀ f k, k ≤ j → j < k + f → p j = true → (∀ i, k ≤ i → i < j → p i = false) → search p k f = some j
  | 0, k, h1, h2, _, _ => by omega
  | f + 1, k, h1, h2, h3, h4 => by
    unfold search
    rcases Nat.lt_or_ge k j with q | q
    · rw [if_neg (by simp [h4 k (Nat.le_refl _) q])]
      exact search_is f (k + 1) q (by omega) h3 fun i a b => h4 i (by omega) b
    · obtain rfl : k = j := by omega
      rw [if_pos h3]
theorem search_not {p : Nat → Bool} : ∀ f k, (∀ i, k ≤ i → i < k + f → p i = false) → search p k f = none
  | 0, k, _ => rfl
  | f + 1, k, h => by
    unfold search
    rw [if_neg (by simp [h k (Nat.le_refl _) (by omega)])]
    exact search_not f (k + 1) fun i a b => h i (by omega) (by omega)
theorem mod_step {j n : Nat} (h : 0 < n) : (j + 1) % n = if j % n + 1 < n then j % n + 1 else 0 := by
  have h1 := Nat.mod_lt j h
  rw [Nat.add_mod]
  rcases Nat.lt_or_ge 1 n with k | k
  · rw [Nat.mod_eq_of_lt k]
    split
    · exact Nat.mod_eq_of_lt (by assumption)
    · rw [show j % n + 1 = n by omega, Nat.mod_self]
  · rw [show n = 1 by omega]; simp [Nat.mod_one]
theorem div_step {j n : Nat} (h : 0 < n) : (j + 1) / n = if j % n + 1 < n then j / n else j / n + 1 := by
  have h1 := Nat.mod_lt j h
  have h2 := Nat.div_add_mod j n
  have h3 := Nat.mod_lt (j + 1) h
  have h4 := Nat.div_add_mod (j + 1) n
  have h5 := mod_step (j := j) h
  split at h5 <;> rename_i hc
  · rw [if_pos hc]
    refine Nat.eq_of_mul_eq_mul_left h ?_
    omega
  · rw [if_neg hc]
    refine Nat.eq_of_mul_eq_mul_left h ?_
    rw [Nat.mul_add]; omega
theorem Good.up_step (h : Good b c ts) (j : Nat) : up c ts (j + 1) = up c ts j + longI c ts (j % ts.length) := by
  have p := h.pos
  unfold up longI
  rw [mod_step p, div_step p]
  split
  · rw [pre_succ]; omega
  · rename_i hc
    have h1 := Nat.mod_lt j p
    rw [show ((j / ts.length + 1 : Nat) : Int) = ((j / ts.length : Nat) : Int) + 1 by omega, Int.add_mul]
    have e : pre ts 0 = 0 := rfl
    omega
theorem up_slot {i : Nat} (hi : i < ts.length) : up c ts i = pre ts i := by
  unfold up
  rw [Nat.div_eq_of_lt hi, Nat.mod_eq_of_lt hi]; simp
theorem Good.up_end (h : Good b c ts) {i : Nat} (hi : i < ts.length) : up c ts (i + 1) = endOf c ts i := by
  rw [h.up_step, up_slot hi, Nat.mod_eq_of_lt hi]
  unfold longI endOf
  split
  · rw [pre_succ]
  · omega
theorem Good.long_pos (h : Good b c ts) {i : Nat} (hi : i < ts.length) : 1 ≤ longI c ts i ∧ longI c ts i ≤ c := by
  have h1 := h.ln i hi
  have h0 := h.pre0 i (by omega)
  have h2 := h.preC (k := i + 1) (by omega)
  have h3 : i + 1 = ts.length → pre ts (i + 1) = pre ts ts.length := fun e => by rw [e]
  rw [pre_succ] at h2
  unfold longI
  split <;> omega
theorem Good.up_lt (h : Good b c ts) {i : Nat} : ∀ k, i < k → up c ts i < up c ts k
  | 0, hi => by omega
  | k + 1, hi => by
    rw [h.up_step]
    have := (h.long_pos (Nat.mod_lt k h.pos)).1
    rcases Nat.lt_or_ge i k with g | g
    · have := h.up_lt k g
      omega
    · rw [show i = k by omega]; omega
theorem Good.up_le (h : Good b c ts) {i k : Nat} (hi : i ≤ k) : up c ts i ≤ up c ts k := by
  rcases Nat.lt_or_ge i k with g | g
  · have := h.up_lt k g; omega
  · rw [show i = k by omega]; omega
theorem Good.up_turn (h : Good b c ts) (j : Nat) : up c ts (j + ts.length) = up c ts j + c := by
  have p := h.pos
  unfold up
  rw [Nat.add_mod_right, Nat.add_div_right _ p]
  show ((j / ts.length + 1 : Nat) : Int) * c + _ = _
  rw [show ((j / ts.length + 1 : Nat) : Int) = ((j / ts.length : Nat) : Int) + 1 by omega, Int.add_mul]
  omega
/-- A time between where two slots begin is in the first of them. -/
theorem Good.slot_up (h : Good b c ts) {t : Int} {j : Nat} (h1 : up c ts j ≤ t) (h2 : t < up c ts (j + 1)) : slotI ts (t % c) = j % ts.length := by
  have p := h.pos
  have hm := Nat.mod_lt j p
  have hL := h.long_pos hm
  rw [h.up_step] at h2
  have hq : up c ts j = ((j / ts.length : Nat) : Int) * c + pre ts (j % ts.length) := rfl
  have h0 := h.pre0 (j % ts.length) (by omega)
  have hc := h.c0
  have hle : pre ts (j % ts.length) + longI c ts (j % ts.length) ≤ c := by
    unfold longI
    split
    · have := h.preC (k := j % ts.length + 1) (by omega)
      rw [pre_succ] at this; omega
    · omega
  have e : t % c = t - ((j / ts.length : Nat) : Int) * c := by
    have : t = (t - ((j / ts.length : Nat) : Int) * c) + ((j / ts.length : Nat) : Int) * c := by omega
    rw [this, Int.add_mul_emod_self_right, Int.emod_eq_of_lt (by omega) (by omega)]
    omega
  rw [e]
  refine h.slot_is hm (by omega) fun hk => ?_
  have : longI c ts (j % ts.length) = tR ts (j % ts.length) := by unfold longI; rw [if_pos hk]
  rw [pre_succ]; omega
end

end Go.Proofs.Ytllmfkodgalklaa
