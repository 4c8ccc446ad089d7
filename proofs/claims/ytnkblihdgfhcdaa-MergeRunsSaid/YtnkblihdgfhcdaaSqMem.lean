/- A Seqr in memory. -/
import Derived.Test.YtnkblihdgfhcdaaProg
import Derived.Below
import Derived.WalkKit
import Derived.WalkMore
import Derived.WalkSpells
import Derived.WalkLawsBesides
import Derived.BigQuiet
import Derived.Lib.Hide
import Derived.Lib.BitFns
import Derived.Lib.Small
import Derived.Lib.Walk
import Derived.Laws.Bits64b
import Derived.Lib.SmallJoins
import Derived.Deep.DeepCutAuto
import Derived.OrdersHeld
import Derived.Deep.RegionHeld
import Derived.Deep.RegionHeld3
namespace Go.Proofs.Ytnkblihdgfhcdaa
open Go.RowKit Go.Joins

theorem bAl {w w' : World} (h : Below w.heap.size w w') (o : Obj) : Below w.heap.size w (w'.alloc o) := h.alloc h.size o
theorem bDr {w w' : World} (h : Below w.heap.size w w') (n : Nat) : Below w.heap.size w (w'.drewN n) := ⟨h.os, h.tape, h.output, h.size, h.block⟩
theorem bDr1 {B : Nat} {w w' : World} (h : Below B w w') : Below B w w'.drew := ⟨h.os, h.tape, h.output, h.size, h.block⟩
theorem bTr {w w1 w2 : World} (h : Below w.heap.size w w1) (k : Below w1.heap.size w1 w2) : Below w.heap.size w w2 := h.trans (k.mono h.size)
theorem bSet {w w' : World} (h : Below w.heap.size w w') (p : Addr) (hp : w.heap.size ≤ p.block) (v : Value) : Below w.heap.size w (w'.setCell p v) := h.setCell hp v
theorem bRef (w : World) : Below w.heap.size w w := Below.refl _ _
theorem heap_alloc_one' (w : World) (o : Obj) : (w.alloc o).heap[w.heap.size]? = some o := by unfold World.alloc; simp
theorem lt_of_heap {w : World} {k : Nat} {o : Obj} (h : w.heap[k]? = some o) : k < w.heap.size := by
  rcases Nat.lt_or_ge k w.heap.size with g | g
  · exact g
  · rw [Array.getElem?_eq_none g] at h; cases h
theorem ret_ii {k j : IntKind} {a b c d : Int} (h1 : a = b) (h2 : c = d) : Ending.returned (.tuple #[.int k a, .int j c]) = .returned (.tuple #[.int k b, .int j d]) := by rw [h1, h2]
theorem ret_i {k : IntKind} {a b : Int} (h : a = b) : Ending.returned (.int k a) = .returned (.int k b) := by rw [h]
theorem ret_b {a b : Bool} (h : a = b) : Ending.returned (.bool a) = .returned (.bool b) := by rw [h]
/-- All blocks but one are as they were. -/
structure ButB (b : Nat) (w w' : World) : Prop where
  os : w'.os = w.os
  tape : w'.tape = w.tape
  output : w'.output = w.output
  size : w.heap.size ≤ w'.heap.size
  block : ∀ k, k < w.heap.size → k ≠ b → w'.heap[k]? = w.heap[k]?
theorem ButB.refl (b : Nat) (w : World) : ButB b w w := ⟨rfl, rfl, rfl, Nat.le_refl _, fun _ _ _ => rfl⟩
theorem ButB.trans {b : Nat} {w w1 w2 : World} (h : ButB b w w1) (k : ButB b w1 w2) : ButB b w w2 :=
  ⟨k.os.trans h.os, k.tape.trans h.tape, k.output.trans h.output, Nat.le_trans h.size k.size, fun i hi hn => (k.block i (Nat.lt_of_lt_of_le hi h.size) hn).trans (h.block i hi hn)⟩
theorem ButB.of_below {b : Nat} {w w1 : World} (h : Below w.heap.size w w1) : ButB b w w1 := ⟨h.os, h.tape, h.output, h.size, fun k hk _ => h.block k hk⟩
theorem ButB.below {b B : Nat} {w w1 : World} (h : ButB b w w1) (hB : B ≤ b) (hb : b < w.heap.size) : Below B w w1 :=
  ⟨h.os, h.tape, h.output, h.size, fun k hk => h.block k (by omega) (by omega)⟩
theorem set_but {w : World} {b : Nat} {cs : Array Value} {t : TypeId} {fr : Nat × Nat} (h : w.heap[b]? = some (.cells cs t fr)) (i : Nat) (v : Value) : ButB b w (w.setCell ⟨b, i, none⟩ v) := by
  have h1 : Below b w (w.setCell ⟨b, i, none⟩ v) := (Below.refl b w).setCell (Nat.le_refl _) v
  exact ⟨h1.os, h1.tape, h1.output, h1.size, fun k _ hn => heap_setCell_other w ⟨b, i, none⟩ k v hn⟩
theorem block_lt_cell {w : World} {a : Addr} {v : Value} (h : w.cell? a = some v) : a.block < w.heap.size := World.block_lt_of_cell? _ _ h

theorem and_low (n : Int) (k : Nat) (hk : k < 63) : bits .and .i64 n ((2 ^ k - 1 : Nat) : Int) = n % ((2 ^ k : Nat) : Int) := by
  have hp : 2 ^ k ≤ 2 ^ 62 := Nat.pow_le_pow_right (by omega) (by omega)
  have hpos := Nat.two_pow_pos k
  have hm : (BitVec.ofInt 64 ((2 ^ k - 1 : Nat) : Int)).toNat = 2 ^ k - 1 := by
    rw [BitVec.toNat_ofInt]; omega
  have hd : (2 ^ k : Nat) ∣ 2 ^ 64 := Nat.pow_dvd_pow 2 (by omega)
  have key : (BitVec.ofInt 64 n &&& BitVec.ofInt 64 ((2 ^ k - 1 : Nat) : Int)).toNat = (n % ((2 ^ 64 : Nat) : Int)).toNat % 2 ^ k := by
    rw [BitVec.toNat_and, BitVec.toNat_ofInt, hm, Nat.and_two_pow_sub_one_eq_mod]
  show IntKind.i64.wrap ((BitVec.ofInt 64 n &&& BitVec.ofInt 64 ((2 ^ k - 1 : Nat) : Int)).toNat : Nat) = _
  rw [key, IntKind.wrap_i64]
  have e : (((n % ((2 ^ 64 : Nat) : Int)).toNat % 2 ^ k : Nat) : Int) = n % ((2 ^ k : Nat) : Int) := by
    rw [Int.natCast_emod, Int.toNat_of_nonneg (Int.emod_nonneg _ (by simp))]
    exact Int.emod_emod_of_dvd _ (Int.natCast_dvd_natCast.2 hd)
  rw [e]
  have h1 := Int.emod_nonneg n (show ((2 ^ k : Nat) : Int) ≠ 0 by omega)
  have h2 := Int.emod_lt_of_pos n (show (0 : Int) < ((2 ^ k : Nat) : Int) by omega)
  generalize n % ((2 ^ k : Nat) : Int) = z at *
  omega

theorem low17 (n : Int) : bits .and .i64 n 131071 = n % 131072 := and_low n 17 (by omega)
theorem low16 (n : Int) : bits .and .i64 n 65535 = n % 65536 := and_low n 16 (by omega)
theorem low7 (n : Int) : bits .and .i64 n 127 = n % 128 := and_low n 7 (by omega)
theorem low6 (n : Int) : bits .and .i64 n 63 = n % 64 := and_low n 6 (by omega)
theorem low5 (n : Int) : bits .and .i64 n 31 = n % 32 := and_low n 5 (by omega)
theorem low4 (n : Int) : bits .and .i64 n 15 = n % 16 := and_low n 4 (by omega)
theorem low3 (n : Int) : bits .and .i64 n 7 = n % 8 := and_low n 3 (by omega)
theorem low2 (n : Int) : bits .and .i64 n 3 = n % 4 := and_low n 2 (by omega)
theorem low1 (n : Int) : bits .and .i64 n 1 = n % 2 := and_low n 1 (by omega)

/-- A Seqr in plain numbers. -/
structure SQ where
  way : Int
  len : Int
  reset : Int
  come : Nat
  last : Int
  when : Int
  c0 : Int
  c1 : Int
  c2 : Int
  c3 : Int
  resets : Int
  lost : Int
def sqrow (m : SQ) : Array Value := #[.int .i64 m.way, .int .i64 m.len, .int .i64 m.reset, .int .u64 (m.come : Int), .int .i64 m.last, .int .i64 m.when, .int .i64 m.c0, .int .i64 m.c1, .int .i64 m.c2, .int .i64 m.c3, .int .i64 m.resets, .int .i64 m.lost]
/-- A Seqr. -/
def Sq (w : World) (b : Nat) (m : SQ) : Prop := w.heap[b]? = some (.cells (sqrow m) 77 (0, 0))
theorem Sq.lt {w : World} {b : Nat} {m : SQ} (h : Sq w b m) : b < w.heap.size := lt_of_heap h
theorem Sq.below {w w' : World} {b : Nat} {m : SQ} (h : Sq w b m) (hb : Below w.heap.size w w') : Sq w' b m := (hb.block b h.lt).trans h
theorem Sq.but {w w' : World} {b c : Nat} {m : SQ} (h : Sq w b m) (hb : ButB c w w') (hn : b ≠ c) : Sq w' b m := (hb.block b h.lt hn).trans h
theorem Sq.alloc {w : World} {b : Nat} {m : SQ} (h : Sq w b m) (o : Obj) : Sq (w.alloc o) b m := h.below (bAl (bRef w) o)
structure SqC (w : World) (b : Nat) (m : SQ) : Prop where
  k0 : w.cell? ⟨b, 0, none⟩ = some (.int .i64 m.way)
  k1 : w.cell? ⟨b, 1, none⟩ = some (.int .i64 m.len)
  k2 : w.cell? ⟨b, 2, none⟩ = some (.int .i64 m.reset)
  k3 : w.cell? ⟨b, 3, none⟩ = some (.int .u64 (m.come : Int))
  k4 : w.cell? ⟨b, 4, none⟩ = some (.int .i64 m.last)
  k5 : w.cell? ⟨b, 5, none⟩ = some (.int .i64 m.when)
  k6 : w.cell? ⟨b, 6, none⟩ = some (.int .i64 m.c0)
  k7 : w.cell? ⟨b, 7, none⟩ = some (.int .i64 m.c1)
  k8 : w.cell? ⟨b, 8, none⟩ = some (.int .i64 m.c2)
  k9 : w.cell? ⟨b, 9, none⟩ = some (.int .i64 m.c3)
  k10 : w.cell? ⟨b, 10, none⟩ = some (.int .i64 m.resets)
  k11 : w.cell? ⟨b, 11, none⟩ = some (.int .i64 m.lost)
  f3 : w.frozen? ⟨b, 3, none⟩ = false
  f4 : w.frozen? ⟨b, 4, none⟩ = false
  f5 : w.frozen? ⟨b, 5, none⟩ = false
  f6 : w.frozen? ⟨b, 6, none⟩ = false
  f7 : w.frozen? ⟨b, 7, none⟩ = false
  f8 : w.frozen? ⟨b, 8, none⟩ = false
  f9 : w.frozen? ⟨b, 9, none⟩ = false
  f10 : w.frozen? ⟨b, 10, none⟩ = false
  f11 : w.frozen? ⟨b, 11, none⟩ = false
section
variable {w w' : World} {b : Nat} {m : SQ}
theorem Sq.c (h : Sq w b m) : SqC w b m := by
  constructor <;> first | exact cell_of_row _ _ _ _ _ _ h | exact frozen_of_row _ _ _ _ _ h
theorem Sq.drew (h : Sq w b m) : Sq w.drew b m := h
theorem Sq.set3 (h : Sq w b m) (x : Nat) : Sq (w.setCell ⟨b, 3, none⟩ (.int .u64 (x : Int))) b { m with come := x } := heap_setCell_same w b 3 _ _ _ h
theorem Sq.set4 (h : Sq w b m) (x : Int) : Sq (w.setCell ⟨b, 4, none⟩ (.int .i64 x)) b { m with last := x } := heap_setCell_same w b 4 _ _ _ h
theorem Sq.set5 (h : Sq w b m) (x : Int) : Sq (w.setCell ⟨b, 5, none⟩ (.int .i64 x)) b { m with when := x } := heap_setCell_same w b 5 _ _ _ h
theorem Sq.set6 (h : Sq w b m) (x : Int) : Sq (w.setCell ⟨b, 6, none⟩ (.int .i64 x)) b { m with c0 := x } := heap_setCell_same w b 6 _ _ _ h
theorem Sq.set7 (h : Sq w b m) (x : Int) : Sq (w.setCell ⟨b, 7, none⟩ (.int .i64 x)) b { m with c1 := x } := heap_setCell_same w b 7 _ _ _ h
theorem Sq.set8 (h : Sq w b m) (x : Int) : Sq (w.setCell ⟨b, 8, none⟩ (.int .i64 x)) b { m with c2 := x } := heap_setCell_same w b 8 _ _ _ h
theorem Sq.set9 (h : Sq w b m) (x : Int) : Sq (w.setCell ⟨b, 9, none⟩ (.int .i64 x)) b { m with c3 := x } := heap_setCell_same w b 9 _ _ _ h
theorem Sq.set10 (h : Sq w b m) (x : Int) : Sq (w.setCell ⟨b, 10, none⟩ (.int .i64 x)) b { m with resets := x } := heap_setCell_same w b 10 _ _ _ h
theorem Sq.set11 (h : Sq w b m) (x : Int) : Sq (w.setCell ⟨b, 11, none⟩ (.int .i64 x)) b { m with lost := x } := heap_setCell_same w b 11 _ _ _ h
theorem Sq.setB (h : Sq w b m) (i : Nat) (v : Value) : ButB b w (w.setCell ⟨b, i, none⟩ v) := set_but h i v
end

end Go.Proofs.Ytnkblihdgfhcdaa
