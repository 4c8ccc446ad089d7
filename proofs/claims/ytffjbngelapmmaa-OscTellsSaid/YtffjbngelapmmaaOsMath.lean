/- Clocks in plain numbers: what a clock tells, by its turns. -/
import Derived.Test.YtffjbngelapmmaaGMd3
namespace Go.Proofs.Ytffjbngelapmmaa
open Go.RowKit

def tA (ts : List (Int × Int)) (k : Nat) : Int := (ts.getD k (0, 0)).1
def tR (ts : List (Int × Int)) (k : Nat) : Int := (ts.getD k (0, 0)).2
def run (d r : Int) : Int := d * r / 33554432
/-- What the clock tells at a turn. -/
def told (s : Int) (ts : List (Int × Int)) : Nat → Int
  | 0 => s
  | k + 1 => told s ts k + run (tA ts (k + 1) - tA ts k) (tR ts k)
/-- Which turn is the last one not behind a time. -/
def ixOf (ts : List (Int × Int)) (x : Int) : Nat → Nat
  | 0 => 0
  | m + 1 => if tA ts (m + 1) ≤ x then m + 1 else ixOf ts x m
def ix (ts : List (Int × Int)) (x : Int) : Nat := ixOf ts x (ts.length - 1)
/-- What it tells by a turn's rate. -/
def tellBy (s : Int) (ts : List (Int × Int)) (k : Nat) (x : Int) : Int := told s ts k + run (x - tA ts k) (tR ts k)
def tell (s : Int) (ts : List (Int × Int)) (x : Int) : Int := tellBy s ts (ix ts x) x

structure Good (ts : List (Int × Int)) : Prop where
  pos : 0 < ts.length
  len : ts.length ≤ 64
  first : tA ts 0 = 0
  inc : ∀ k, k + 1 < ts.length → tA ts k < tA ts (k + 1)
  top : ∀ k, k < ts.length → tA ts k ≤ 1099511627776
  rate : ∀ k, k < ts.length → 2181843386368 ≤ tR ts k ∧ tR ts k ≤ 2216203124736

theorem run_lo {d r : Int} (hd : 0 ≤ d) (hr : 2181843386368 ≤ r) : d * 65024 ≤ run d r := by
  unfold run
  refine Int.le_ediv_of_mul_le (by omega) ?_
  have := Int.mul_le_mul_of_nonneg_left hr hd
  omega
theorem run_hi {d r : Int} (hd : 0 ≤ d) (hr : r ≤ 2216203124736) : run d r ≤ d * 66048 := by
  unfold run
  refine Int.ediv_le_of_le_mul (by omega) ?_
  have := Int.mul_le_mul_of_nonneg_left hr hd
  omega
theorem run_zero (r : Int) : run 0 r = 0 := by unfold run; rw [Int.zero_mul]; rfl
theorem run_rateZero (d : Int) : run d 0 = 0 := by unfold run; rw [Int.mul_zero]; rfl
theorem run_nonneg {d r : Int} (hd : 0 ≤ d) (hr : 0 ≤ r) : 0 ≤ run d r := Int.ediv_nonneg (Int.mul_nonneg hd hr) (by omega)
/-- One span taken in two. -/
theorem run_add (x y r : Int) : run x r + run y r ≤ run (x + y) r ∧ run (x + y) r ≤ run x r + run y r + 1 := by
  unfold run
  rw [Int.add_mul]
  generalize x * r = p
  generalize y * r = q
  omega
theorem run_q (x r : Int) : run x r * 33554432 ≤ x * r ∧ x * r < run x r * 33554432 + 33554432 := by
  unfold run
  generalize x * r = p
  omega
/-- The span from one time to another one at a rate. -/
theorem run_span (x y r : Int) : (y - x) * r - 33554432 ≤ (run y r - run x r) * 33554432 ∧ (run y r - run x r) * 33554432 ≤ (y - x) * r + 33554432 := by
  have h1 := run_q x r
  have h2 := run_q y r
  rw [Int.sub_mul, Int.sub_mul]
  generalize x * r = p at *
  generalize y * r = q at *
  omega

section
variable {s : Int} {ts : List (Int × Int)}
theorem Good.mono (g : Good ts) : ∀ j k, k ≤ j → j < ts.length → tA ts k ≤ tA ts j := by
  intro j
  induction j with
  | zero => intro k hk _; obtain rfl : k = 0 := by omega
            exact Int.le_refl _
  | succ j ih =>
    intro k hk hj
    rcases Nat.lt_or_ge k (j + 1) with h | h
    · have := ih k (by omega) (by omega)
      have := g.inc j hj
      omega
    · obtain rfl : k = j + 1 := by omega
      exact Int.le_refl _
theorem Good.smono (g : Good ts) {j k : Nat} (h : k < j) (hj : j < ts.length) : tA ts k < tA ts j := by
  obtain ⟨i, rfl⟩ : ∃ i, j = i + 1 := ⟨j - 1, by omega⟩
  have := g.mono i k (by omega) (by omega)
  have := g.inc i hj
  omega
theorem Good.nonneg (g : Good ts) {k : Nat} (h : k < ts.length) : 0 ≤ tA ts k := by
  have := g.mono k 0 (by omega) h
  rw [g.first] at this
  exact this
theorem told_bd (g : Good ts) : ∀ k, k < ts.length → tA ts k * 65024 ≤ told s ts k - s ∧ told s ts k - s ≤ tA ts k * 66048 := by
  intro k
  induction k with
  | zero => intro _; rw [g.first]; show _ ≤ s - s ∧ s - s ≤ _; omega
  | succ k ih =>
    intro hk
    have h1 := ih (by omega)
    have h2 := g.inc k hk
    have h3 := g.rate k (by omega)
    have h4 := run_lo (d := tA ts (k + 1) - tA ts k) (r := tR ts k) (by omega) h3.1
    have h5 := run_hi (d := tA ts (k + 1) - tA ts k) (r := tR ts k) (by omega) h3.2
    show _ ≤ told s ts k + run (tA ts (k + 1) - tA ts k) (tR ts k) - s ∧ told s ts k + run (tA ts (k + 1) - tA ts k) (tR ts k) - s ≤ _
    omega
theorem told_start (s : Int) (ts : List (Int × Int)) (k : Nat) : told s ts k = s + told 0 ts k := by
  induction k with
  | zero => show s = s + 0; omega
  | succ k ih => show told s ts k + _ = s + (told 0 ts k + _); omega

/-- In which leg a time lies. -/
def Leg (ts : List (Int × Int)) (x : Int) (k : Nat) : Prop := k < ts.length ∧ tA ts k ≤ x ∧ ∀ j, k < j → j < ts.length → x < tA ts j
theorem ixOf_le (x : Int) (m : Nat) : ixOf ts x m ≤ m := by
  induction m with
  | zero => exact Nat.le_refl _
  | succ m ih => unfold ixOf; split <;> omega
theorem ixOf_at (x : Int) (m : Nat) (h0 : tA ts 0 ≤ x) : tA ts (ixOf ts x m) ≤ x := by
  induction m with
  | zero => exact h0
  | succ m ih =>
    unfold ixOf
    split
    · assumption
    · exact ih
theorem ixOf_above (x : Int) (m : Nat) : ∀ j, ixOf ts x m < j → j ≤ m → x < tA ts j := by
  induction m with
  | zero => intro j h1 h2; omega
  | succ m ih =>
    intro j h1 h2
    unfold ixOf at h1
    split at h1
    · omega
    · rcases Nat.lt_or_ge j (m + 1) with h | h
      · exact ih j h1 (by omega)
      · obtain rfl : j = m + 1 := by omega
        omega
theorem leg_ix (g : Good ts) {x : Int} (hx : 0 ≤ x) : Leg ts x (ix ts x) := by
  have hp := g.pos
  refine ⟨?_, ixOf_at x _ (by rw [g.first]; exact hx), fun j h1 h2 => ixOf_above x _ j h1 (by omega)⟩
  have := ixOf_le (ts := ts) x (ts.length - 1)
  unfold ix
  omega
theorem leg_only (g : Good ts) {x : Int} {j k : Nat} (h : Leg ts x j) (h' : Leg ts x k) : j = k := by
  rcases Nat.lt_trichotomy j k with hlt | rfl | hlt
  · have := h.2.2 k hlt h'.1
    have := h'.2.1
    omega
  · rfl
  · have := h'.2.2 j hlt h.1
    have := h.2.1
    omega
theorem tell_leg (g : Good ts) {x : Int} {k : Nat} (hx : 0 ≤ x) (h : Leg ts x k) : tell s ts x = tellBy s ts k x := by
  unfold tell
  rw [leg_only g (leg_ix g hx) h]
theorem tellBy_bd (g : Good ts) {x : Int} {k : Nat} (hk : k < ts.length) (hx : tA ts k ≤ x) : x * 65024 ≤ tellBy s ts k x - s ∧ tellBy s ts k x - s ≤ x * 66048 := by
  have h1 := told_bd (s := s) g k hk
  have h3 := g.rate k hk
  have h4 := run_lo (d := x - tA ts k) (r := tR ts k) (by omega) h3.1
  have h5 := run_hi (d := x - tA ts k) (r := tR ts k) (by omega) h3.2
  unfold tellBy
  omega
theorem tell_bd (g : Good ts) {x : Int} (hx : 0 ≤ x) : x * 65024 ≤ tell s ts x - s ∧ tell s ts x - s ≤ x * 66048 := by
  have h := leg_ix g hx
  exact tellBy_bd g h.1 h.2.1
theorem tell_start (s : Int) (ts : List (Int × Int)) (x : Int) : tell s ts x = s + tell 0 ts x := by
  unfold tell tellBy
  rw [told_start]
  omega
theorem tellBy_turn (k : Nat) : tellBy s ts k (tA ts (k + 1)) = tellBy s ts (k + 1) (tA ts (k + 1)) := by
  unfold tellBy
  rw [Int.sub_self, run_zero]
  show _ = told s ts k + run (tA ts (k + 1) - tA ts k) (tR ts k) + 0
  omega

/-- From one time on to a later one the clock goes on by its rates. -/
theorem tellBy_far (g : Good ts) (lo hi : Int) (hlo : ∀ k, k < ts.length → lo ≤ tR ts k) (hhi : ∀ k, k < ts.length → tR ts k ≤ hi) (i : Nat) (a : Int) :
    ∀ n, i + n < ts.length → (0 < n → a ≤ tA ts (i + 1)) → ∀ b, a ≤ b → tA ts (i + n) ≤ b →
      (b - a) * lo - 33554432 * (n + 1) ≤ (tellBy s ts (i + n) b - tellBy s ts i a) * 33554432 ∧ (tellBy s ts (i + n) b - tellBy s ts i a) * 33554432 ≤ (b - a) * hi + 33554432 * (n + 1) := by
  intro n
  induction n with
  | zero =>
    intro h1 _ b hab hb
    have h2 := run_span (a - tA ts i) (b - tA ts i) (tR ts i)
    rw [show b - tA ts i - (a - tA ts i) = b - a by omega] at h2
    have h3 := Int.mul_le_mul_of_nonneg_left (hlo i (by omega)) (show 0 ≤ b - a by omega)
    have h4 := Int.mul_le_mul_of_nonneg_left (hhi i (by omega)) (show 0 ≤ b - a by omega)
    show (b - a) * lo - 33554432 * (((0 : Nat) : Int) + 1) ≤ (told s ts i + run (b - tA ts i) (tR ts i) - (told s ts i + run (a - tA ts i) (tR ts i))) * 33554432 ∧ (told s ts i + run (b - tA ts i) (tR ts i) - (told s ts i + run (a - tA ts i) (tR ts i))) * 33554432 ≤ (b - a) * hi + 33554432 * (((0 : Nat) : Int) + 1)
    omega
  | succ n ih =>
    intro h1 h0 b hab hb
    have ha : a ≤ tA ts (i + n + 1) := by
      have := g.mono (i + n + 1) (i + 1) (by omega) (by omega)
      have := h0 (by omega)
      omega
    have hb' : tA ts (i + n + 1) ≤ b := hb
    have h2 := ih (by omega) (fun _ => h0 (by omega)) (tA ts (i + n + 1)) ha (Int.le_of_lt (g.inc (i + n) (by omega)))
    rw [tellBy_turn] at h2
    have h3 := run_span (tA ts (i + n + 1) - tA ts (i + n + 1)) (b - tA ts (i + n + 1)) (tR ts (i + n + 1))
    rw [show b - tA ts (i + n + 1) - (tA ts (i + n + 1) - tA ts (i + n + 1)) = b - tA ts (i + n + 1) by omega] at h3
    have h4 := Int.mul_le_mul_of_nonneg_left (hlo (i + n + 1) (by omega)) (show 0 ≤ b - tA ts (i + n + 1) by omega)
    have h5 := Int.mul_le_mul_of_nonneg_left (hhi (i + n + 1) (by omega)) (show 0 ≤ b - tA ts (i + n + 1) by omega)
    have h6 : tellBy s ts (i + n + 1) b - tellBy s ts (i + n + 1) (tA ts (i + n + 1)) = run (b - tA ts (i + n + 1)) (tR ts (i + n + 1)) - run (tA ts (i + n + 1) - tA ts (i + n + 1)) (tR ts (i + n + 1)) := by unfold tellBy; omega
    have h7 : (b - a) * lo = (b - tA ts (i + n + 1)) * lo + (tA ts (i + n + 1) - a) * lo := by rw [← Int.add_mul]; congr 1; omega
    have h8 : (b - a) * hi = (b - tA ts (i + n + 1)) * hi + (tA ts (i + n + 1) - a) * hi := by rw [← Int.add_mul]; congr 1; omega
    rw [← Nat.add_assoc, h7, h8]
    generalize (b - tA ts (i + n + 1)) * lo = p1 at *
    generalize (b - tA ts (i + n + 1)) * hi = p2 at *
    generalize (b - tA ts (i + n + 1)) * tR ts (i + n + 1) = p3 at *
    generalize (tA ts (i + n + 1) - a) * lo = p4 at *
    generalize (tA ts (i + n + 1) - a) * hi = p5 at *
    omega
/-- A clock always goes on. -/
theorem tellBy_on (g : Good ts) (i : Nat) (a : Int) :
    ∀ n, i + n < ts.length → (0 < n → a ≤ tA ts (i + 1)) → ∀ b, a ≤ b → tA ts (i + n) ≤ b → (b - a) * 65024 ≤ tellBy s ts (i + n) b - tellBy s ts i a := by
  intro n
  induction n with
  | zero =>
    intro h1 _ b hab hb
    have h2 := (run_add (a - tA ts i) (b - a) (tR ts i)).1
    rw [show a - tA ts i + (b - a) = b - tA ts i by omega] at h2
    have h3 := run_lo (d := b - a) (r := tR ts i) (by omega) (g.rate i (by omega)).1
    show (b - a) * 65024 ≤ told s ts i + run (b - tA ts i) (tR ts i) - (told s ts i + run (a - tA ts i) (tR ts i))
    omega
  | succ n ih =>
    intro h1 h0 b hab hb
    have ha : a ≤ tA ts (i + n + 1) := by
      have := g.mono (i + n + 1) (i + 1) (by omega) (by omega)
      have := h0 (by omega)
      omega
    have hb' : tA ts (i + n + 1) ≤ b := hb
    have h2 := ih (by omega) (fun _ => h0 (by omega)) (tA ts (i + n + 1)) ha (Int.le_of_lt (g.inc (i + n) (by omega)))
    rw [tellBy_turn] at h2
    have h3 := run_lo (d := b - tA ts (i + n + 1)) (r := tR ts (i + n + 1)) (by omega) (g.rate _ (by omega)).1
    have h4 : tellBy s ts (i + n + 1) (tA ts (i + n + 1)) = told s ts (i + n + 1) := by unfold tellBy; rw [Int.sub_self, run_zero]; omega
    have h5 : tellBy s ts (i + n + 1) b = told s ts (i + n + 1) + run (b - tA ts (i + n + 1)) (tR ts (i + n + 1)) := rfl
    rw [← Nat.add_assoc]
    omega
theorem leg_le (g : Good ts) {a b : Int} {j k : Nat} (ha : Leg ts a j) (hb : Leg ts b k) (h : a ≤ b) : j ≤ k := by
  refine Nat.le_of_not_lt fun hlt => ?_
  have := hb.2.2 j hlt ha.1
  have := ha.2.1
  omega
theorem tell_on (g : Good ts) {a b : Int} (ha : 0 ≤ a) (hab : a ≤ b) : (b - a) * 65024 ≤ tell s ts b - tell s ts a := by
  have h1 := leg_ix g ha
  have h2 := leg_ix g (show 0 ≤ b by omega)
  obtain ⟨n, hn⟩ : ∃ n, ix ts b = ix ts a + n := ⟨ix ts b - ix ts a, by have := leg_le g h1 h2 hab; omega⟩
  have h3 := tellBy_on (s := s) g (ix ts a) a n (by rw [← hn]; exact h2.1) (fun h0 => Int.le_of_lt (h1.2.2 _ (by omega) (by have := h2.1; omega))) b hab (by rw [← hn]; exact h2.2.1)
  rw [← hn] at h3
  exact h3
theorem tell_far (g : Good ts) (lo hi : Int) (hlo : ∀ k, k < ts.length → lo ≤ tR ts k) (hhi : ∀ k, k < ts.length → tR ts k ≤ hi) {a b : Int} (ha : 0 ≤ a) (hab : a ≤ b) :
    (b - a) * lo - 33554432 * (ts.length : Int) ≤ (tell s ts b - tell s ts a) * 33554432 ∧ (tell s ts b - tell s ts a) * 33554432 ≤ (b - a) * hi + 33554432 * (ts.length : Int) := by
  have h1 := leg_ix g ha
  have h2 := leg_ix g (show 0 ≤ b by omega)
  obtain ⟨n, hn⟩ : ∃ n, ix ts b = ix ts a + n := ⟨ix ts b - ix ts a, by have := leg_le g h1 h2 hab; omega⟩
  have h3 := tellBy_far (s := s) g lo hi hlo hhi (ix ts a) a n (by rw [← hn]; exact h2.1) (fun h0 => Int.le_of_lt (h1.2.2 _ (by omega) (by have := h2.1; omega))) b hab (by rw [← hn]; exact h2.2.1)
  rw [← hn] at h3
  have h4 := h2.1
  change _ ≤ (tell s ts b - tell s ts a) * 33554432 ∧ (tell s ts b - tell s ts a) * 33554432 ≤ _ at h3
  omega
end

/-- A product of what is not below nought parted, rounded down. -/
theorem md_quot {a b c : Int} (ha : 0 ≤ a) (hb : 0 ≤ b) (hc : 0 < c) (hq : a * b / c < 9223372036854775808) : mdV a b c 0 = a * b / c ∧ mdE a b c 0 = 0 := by
  have hn : neg a b c = false := by
    unfold neg
    rw [decide_eq_false (show ¬ a < 0 by omega), decide_eq_false (show ¬ b < 0 by omega), decide_eq_false (show ¬ c < 0 by omega)]; rfl
  have hN : ((mdN a b : Nat) : Int) = a * b := by
    unfold mdN
    rw [Int.natCast_mul, Int.natAbs_of_nonneg ha, Int.natAbs_of_nonneg hb]
  have hcN : ((c.natAbs : Nat) : Int) = c := Int.natAbs_of_nonneg (by omega)
  have hQ : ((mdQ a b c 0 : Nat) : Int) = a * b / c := by
    unfold mdQ
    rw [hn]
    have hg : goes ((mdN a b / c.natAbs : Nat) : Int) ((mdN a b % c.natAbs : Nat) : Int) (c.natAbs : Int) false 0 = false := by unfold goes; split <;> simp
    rw [hg, Int.natCast_add, Int.natCast_ediv, hN, hcN]
    simp
  have h1 : ¬ ((0 : Int) < 0 ∨ (2 : Int) < 0) := by omega
  have h2 : ¬ c = 0 := by omega
  have h3 : mdOver a b c 0 = false := by unfold mdOver; rw [hn]; simp; omega
  constructor
  · unfold mdV
    rw [if_neg h1, if_neg h2, h3, hn, ← hQ]; simp
  · unfold mdE
    rw [if_neg h1, if_neg h2, h3]; simp

end Go.Proofs.Ytffjbngelapmmaa
