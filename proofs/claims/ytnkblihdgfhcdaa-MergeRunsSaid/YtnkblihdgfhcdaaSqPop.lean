/- How many bits are set: the sum of the bits. -/
import Derived.Test.YtnkblihdgfhcdaaSqOnes
namespace Go.Proofs.Ytnkblihdgfhcdaa
open Go.RowKit Go.Joins

def rep : Nat → Nat
  | 0 => 0
  | k + 1 => 256 * rep k + 1
theorem and_block (q r m s : Nat) (hr : r < 256) (hs : s < 256) : (256 * q + r) &&& (256 * m + s) = 256 * (q &&& m) + (r &&& s) := by
  have h1 : r &&& s < 256 := Nat.lt_of_le_of_lt Nat.and_le_left hr
  apply Nat.eq_of_testBit_eq
  intro i
  rw [Nat.testBit_and]
  rw [show 256 = 2 ^ 8 from rfl] at *
  rw [Nat.testBit_two_pow_mul_add _ hr, Nat.testBit_two_pow_mul_add _ hs, Nat.testBit_two_pow_mul_add _ h1]
  split <;> rw [Nat.testBit_and]
def F1 (k x : Nat) : Nat := (x / 2 &&& 85 * rep k) + (x &&& 85 * rep k)
def F2 (k x : Nat) : Nat := (x / 4 &&& 51 * rep k) + (x &&& 51 * rep k)
def F3 (k x : Nat) : Nat := (x / 16 + x) &&& 15 * rep k
def f1 (r : Nat) : Nat := (r / 2 &&& 85) + (r &&& 85)
def f2 (r : Nat) : Nat := (r / 4 &&& 51) + (r &&& 51)
def f3 (r : Nat) : Nat := (r / 16 + r) &&& 15
def pc (r : Nat) : Nat := f3 (f2 (f1 r))
theorem t1a : ∀ r : Fin 256, (128 + r.val / 2) &&& 85 = r.val / 2 &&& 85 := by decide +kernel
theorem t1b : ∀ r : Fin 256, f1 r.val < 256 := by decide +kernel
theorem t2a : ∀ r : Fin 256, (64 + r.val / 4) &&& 51 = r.val / 4 &&& 51 := by decide +kernel
theorem t2b : ∀ r : Fin 256, (128 + r.val / 4) &&& 51 = r.val / 4 &&& 51 := by decide +kernel
theorem t2c : ∀ r : Fin 256, (192 + r.val / 4) &&& 51 = r.val / 4 &&& 51 := by decide +kernel
theorem t2d : ∀ r : Fin 256, f2 (f1 r.val) % 16 ≤ 4 ∧ f2 (f1 r.val) / 16 ≤ 4 := by decide +kernel
theorem t3 : ∀ r : Fin 256, pc r.val ≤ 8 ∧ pc r.val = Lib.popAux 8 r.val := by decide +kernel
theorem F1_step (k q r : Nat) (hr : r < 256) : F1 (k + 1) (256 * q + r) = 256 * F1 k q + f1 r := by
  have e : 85 * rep (k + 1) = 256 * (85 * rep k) + 85 := by show 85 * (256 * rep k + 1) = _; omega
  have h2 : (256 * q + r) / 2 = 256 * (q / 2) + (128 * (q % 2) + r / 2) := by omega
  have h3 : (128 * (q % 2) + r / 2) &&& 85 = r / 2 &&& 85 := by
    have : q % 2 = 0 ∨ q % 2 = 1 := by omega
    rcases this with h | h
    · rw [h]; simp
    · rw [h]; exact t1a ⟨r, hr⟩
  unfold F1 f1
  rw [e, h2, and_block _ _ _ _ (by omega) (by decide), and_block _ _ _ _ hr (by decide), h3]
  omega
theorem F2_step (k q r : Nat) (hr : r < 256) : F2 (k + 1) (256 * q + r) = 256 * F2 k q + f2 r := by
  have e : 51 * rep (k + 1) = 256 * (51 * rep k) + 51 := by show 51 * (256 * rep k + 1) = _; omega
  have h2 : (256 * q + r) / 4 = 256 * (q / 4) + (64 * (q % 4) + r / 4) := by omega
  have h3 : (64 * (q % 4) + r / 4) &&& 51 = r / 4 &&& 51 := by
    have : q % 4 = 0 ∨ q % 4 = 1 ∨ q % 4 = 2 ∨ q % 4 = 3 := by omega
    rcases this with h | h | h | h
    · rw [h]; simp
    · rw [h]; exact t2a ⟨r, hr⟩
    · rw [h]; exact t2b ⟨r, hr⟩
    · rw [h]; exact t2c ⟨r, hr⟩
  unfold F2 f2
  rw [e, h2, and_block _ _ _ _ (by omega) (by decide), and_block _ _ _ _ hr (by decide), h3]
  omega
theorem F3_step (k q r : Nat) (hr : r % 16 ≤ 4) (hr2 : r / 16 ≤ 4) (hq : q % 16 ≤ 4) : F3 (k + 1) (256 * q + r) = 256 * F3 k q + f3 r := by
  have e : 15 * rep (k + 1) = 256 * (15 * rep k) + 15 := by show 15 * (256 * rep k + 1) = _; omega
  have h2 : (256 * q + r) / 16 + (256 * q + r) = 256 * (q / 16 + q) + (16 * (q % 16) + r / 16 + r) := by omega
  unfold F3 f3
  rw [e, h2, and_block _ _ _ _ (by omega) (by decide)]
  rw [show (15 : Nat) = 2 ^ 4 - 1 from rfl, Nat.and_two_pow_sub_one_eq_mod, Nat.and_two_pow_sub_one_eq_mod]
  congr 1
  omega
def Bk : Nat → Nat → Nat
  | 0, _ => 0
  | k + 1, x => 256 * Bk k (x / 256) + pc (x % 256)
theorem F12_low : ∀ (k x : Nat), F2 k (F1 k x) % 16 ≤ 4
  | 0, x => by simp [F2, F1, rep]
  | k + 1, x => by
    have h := Nat.mod_lt x (show 256 > 0 by decide)
    rw [show x = 256 * (x / 256) + x % 256 by omega, F1_step _ _ _ h, F2_step _ _ _ (t1b ⟨_, h⟩)]
    have := (t2d ⟨_, h⟩).1
    omega
theorem F_all : ∀ (k x : Nat), F3 k (F2 k (F1 k x)) = Bk k x
  | 0, x => by simp [F3, F2, F1, rep, Bk]
  | k + 1, x => by
    have h := Nat.mod_lt x (show 256 > 0 by decide)
    have e : x = 256 * (x / 256) + x % 256 := by omega
    show F3 (k + 1) (F2 (k + 1) (F1 (k + 1) x)) = 256 * Bk k (x / 256) + pc (x % 256)
    conv => lhs; rw [e]
    rw [F1_step _ _ _ h, F2_step _ _ _ (t1b ⟨_, h⟩), F3_step _ _ _ (t2d ⟨_, h⟩).1 (t2d ⟨_, h⟩).2 (F12_low _ _), F_all k]
    rfl
theorem F_lt (x : Nat) (h : x < 18446744073709551616) : sw3 (sw2 (sw1 x)) = F3 8 (F2 8 (F1 8 x)) := by
  have e1 : sw1 x = F1 8 x := by
    have h1 : x / 2 &&& 6148914691236517205 ≤ 6148914691236517205 := Nat.and_le_right
    have h2 : x &&& 6148914691236517205 ≤ 6148914691236517205 := Nat.and_le_right
    unfold sw1 F1
    rw [show 85 * rep 8 = 6148914691236517205 from rfl]
    omega
  have e2 : sw2 (F1 8 x) = F2 8 (F1 8 x) := by
    have h1 : F1 8 x / 4 &&& 3689348814741910323 ≤ 3689348814741910323 := Nat.and_le_right
    have h2 : F1 8 x &&& 3689348814741910323 ≤ 3689348814741910323 := Nat.and_le_right
    unfold sw2 F2
    rw [show 51 * rep 8 = 3689348814741910323 from rfl]
    omega
  have b2 : F2 8 (F1 8 x) ≤ 7378697629483820646 := by
    have h1 : F1 8 x / 4 &&& 3689348814741910323 ≤ 3689348814741910323 := Nat.and_le_right
    have h2 : F1 8 x &&& 3689348814741910323 ≤ 3689348814741910323 := Nat.and_le_right
    unfold F2
    rw [show 51 * rep 8 = 3689348814741910323 from rfl]
    omega
  rw [e1, e2]
  unfold sw3 F3
  rw [show 15 * rep 8 = 1085102592571150095 from rfl, Nat.mod_eq_of_lt (by omega)]
theorem pop_add : ∀ (a b x : Nat), Lib.popAux (a + b) x = Lib.popAux a (x % 2 ^ a) + Lib.popAux b (x / 2 ^ a)
  | 0, b, x => by simp [Lib.popAux]
  | a + 1, b, x => by
    rw [show a + 1 + b = (a + b) + 1 by omega]
    have key : ∀ n y, Lib.popAux (n + 1) y = y % 2 + Lib.popAux n (y / 2) := fun _ _ => rfl
    rw [key, key, pop_add a b (x / 2)]
    have e1 : x % 2 ^ (a + 1) % 2 = x % 2 := by rw [Nat.pow_succ, Nat.mul_comm, Nat.mod_mul_right_mod]
    have e2 : x % 2 ^ (a + 1) / 2 = x / 2 % 2 ^ a := by rw [Nat.pow_succ, Nat.mul_comm, Nat.mod_mul_right_div_self]
    have e3 : x / 2 / 2 ^ a = x / 2 ^ (a + 1) := by rw [Nat.div_div_eq_div_mul, Nat.pow_succ, Nat.mul_comm]
    rw [e1, e2, e3]
    omega
theorem bytes4 (v0 v1 v2 v3 v4 v5 v6 v7 : Nat) (d0 : v0 ≤ 8) (d1 : v1 ≤ 8) (d2 : v2 ≤ 8) (d3 : v3 ≤ 8) (d4 : v4 ≤ 8) (d5 : v5 ≤ 8) (d6 : v6 ≤ 8) (d7 : v7 ≤ 8) :
    sw6 (sw5 (sw4 (256 * (256 * (256 * (256 * (256 * (256 * (256 * (256 * 0 + v7) + v6) + v5) + v4) + v3) + v2) + v1) + v0))) % 128 = v0 + (v1 + (v2 + (v3 + (v4 + (v5 + (v6 + v7)))))) := by
  have e4 : sw4 (256 * (256 * (256 * (256 * (256 * (256 * (256 * (256 * 0 + v7) + v6) + v5) + v4) + v3) + v2) + v1) + v0) = 256 * (256 * (256 * (256 * (256 * (256 * (256 * v7 + (v6 + v7)) + (v5 + v6)) + (v4 + v5)) + (v3 + v4)) + (v2 + v3)) + (v1 + v2)) + (v0 + v1) := by
    unfold sw4
    rw [show (256 * (256 * (256 * (256 * (256 * (256 * (256 * (256 * 0 + v7) + v6) + v5) + v4) + v3) + v2) + v1) + v0) / 256 = 256 * (256 * (256 * (256 * (256 * (256 * v7 + v6) + v5) + v4) + v3) + v2) + v1 by omega, Nat.mod_eq_of_lt (by omega)]
    omega
  rw [e4]
  have a7 : v6 + v7 ≤ 16 := by omega
  have a6 : v5 + v6 ≤ 16 := by omega
  have a5 : v4 + v5 ≤ 16 := by omega
  have a4 : v3 + v4 ≤ 16 := by omega
  have a3 : v2 + v3 ≤ 16 := by omega
  have a2 : v1 + v2 ≤ 16 := by omega
  have a1 : v0 + v1 ≤ 16 := by omega
  rw [show v0 + (v1 + (v2 + (v3 + (v4 + (v5 + (v6 + v7)))))) = (v0 + v1) + (v2 + v3) + ((v4 + v5) + (v6 + v7)) by omega]
  clear e4 d0 d1 d2 d3 d4 d5 d6
  generalize v6 + v7 = u6 at *
  generalize v5 + v6 = u5 at *
  generalize v4 + v5 = u4 at *
  generalize v3 + v4 = u3 at *
  generalize v2 + v3 = u2 at *
  generalize v1 + v2 = u1 at *
  generalize v0 + v1 = u0 at *
  have e5 : sw5 (256 * (256 * (256 * (256 * (256 * (256 * (256 * v7 + u6) + u5) + u4) + u3) + u2) + u1) + u0) = 256 * (256 * (256 * (256 * (256 * (256 * (256 * v7 + u6) + (u5 + v7)) + (u4 + u6)) + (u3 + u5)) + (u2 + u4)) + (u1 + u3)) + (u0 + u2) := by
    unfold sw5
    rw [show (256 * (256 * (256 * (256 * (256 * (256 * (256 * v7 + u6) + u5) + u4) + u3) + u2) + u1) + u0) / 65536 = 256 * (256 * (256 * (256 * (256 * v7 + u6) + u5) + u4) + u3) + u2 by omega, Nat.mod_eq_of_lt (by omega)]
    omega
  rw [e5]
  have b4 : u4 + u6 ≤ 32 := by omega
  have b0 : u0 + u2 ≤ 32 := by omega
  have b1 : u1 + u3 ≤ 32 := by omega
  have b2 : u2 + u4 ≤ 32 := by omega
  have b3 : u3 + u5 ≤ 32 := by omega
  have b5 : u5 + v7 ≤ 32 := by omega
  clear e5 a1 a2 a3 a4 a5
  generalize u4 + u6 = t4 at *
  generalize u0 + u2 = t0 at *
  generalize u1 + u3 = t1 at *
  generalize u2 + u4 = t2 at *
  generalize u3 + u5 = t3 at *
  generalize u5 + v7 = t5 at *
  unfold sw6
  rw [show (256 * (256 * (256 * (256 * (256 * (256 * (256 * v7 + u6) + t5) + t4) + t3) + t2) + t1) + t0) / 4294967296 = 256 * (256 * (256 * v7 + u6) + t5) + t4 by omega, Nat.mod_eq_of_lt (b := 18446744073709551616) (by omega)]
  omega
theorem ones_eq (x : Nat) (h : x < 18446744073709551616) : ones x = Lib.popAux 64 x := by
  unfold ones
  rw [F_lt x h, F_all]
  simp only [Bk]
  have p : Lib.popAux 64 x = Lib.popAux 8 (x % 256) + (Lib.popAux 8 (x / 256 % 256) + (Lib.popAux 8 (x / 256 / 256 % 256) + (Lib.popAux 8 (x / 256 / 256 / 256 % 256) + (Lib.popAux 8 (x / 256 / 256 / 256 / 256 % 256) + (Lib.popAux 8 (x / 256 / 256 / 256 / 256 / 256 % 256) + (Lib.popAux 8 (x / 256 / 256 / 256 / 256 / 256 / 256 % 256) + Lib.popAux 8 (x / 256 / 256 / 256 / 256 / 256 / 256 / 256 % 256))))))) := by
    rw [show (64 : Nat) = 8 + 56 from rfl, pop_add 8 56, show (56 : Nat) = 8 + 48 from rfl, pop_add 8 48, show (48 : Nat) = 8 + 40 from rfl, pop_add 8 40, show (40 : Nat) = 8 + 32 from rfl, pop_add 8 32, show (32 : Nat) = 8 + 24 from rfl, pop_add 8 24, show (24 : Nat) = 8 + 16 from rfl, pop_add 8 16, show (16 : Nat) = 8 + 8 from rfl, pop_add 8 8, show (2 : Nat) ^ 8 = 256 from rfl]
    rw [Nat.mod_eq_of_lt (show x / 256 / 256 / 256 / 256 / 256 / 256 / 256 < 256 by omega)]
  have c := fun (y : Nat) => t3 ⟨y % 256, Nat.mod_lt _ (by decide)⟩
  have c0 := c x
  have c1 := c (x / 256)
  have c2 := c (x / 256 / 256)
  have c3 := c (x / 256 / 256 / 256)
  have c4 := c (x / 256 / 256 / 256 / 256)
  have c5 := c (x / 256 / 256 / 256 / 256 / 256)
  have c6 := c (x / 256 / 256 / 256 / 256 / 256 / 256)
  have c7 := c (x / 256 / 256 / 256 / 256 / 256 / 256 / 256)
  rw [p, ← c0.2, ← c1.2, ← c2.2, ← c3.2, ← c4.2, ← c5.2, ← c6.2, ← c7.2]
  clear p c
  have d0 := c0.1
  have d1 := c1.1
  have d2 := c2.1
  have d3 := c3.1
  have d4 := c4.1
  have d5 := c5.1
  have d6 := c6.1
  have d7 := c7.1
  clear c0 c1 c2 c3 c4 c5 c6 c7
  simp only at d0 d1 d2 d3 d4 d5 d6 d7 ⊢
  generalize pc (x % 256) = v0 at *
  generalize pc (x / 256 % 256) = v1 at *
  generalize pc (x / 256 / 256 % 256) = v2 at *
  generalize pc (x / 256 / 256 / 256 % 256) = v3 at *
  generalize pc (x / 256 / 256 / 256 / 256 % 256) = v4 at *
  generalize pc (x / 256 / 256 / 256 / 256 / 256 % 256) = v5 at *
  generalize pc (x / 256 / 256 / 256 / 256 / 256 / 256 % 256) = v6 at *
  generalize pc (x / 256 / 256 / 256 / 256 / 256 / 256 / 256 % 256) = v7 at *
  clear h
  rw [bytes4 v0 v1 v2 v3 v4 v5 v6 v7 d0 d1 d2 d3 d4 d5 d6 d7]

end Go.Proofs.Ytnkblihdgfhcdaa
