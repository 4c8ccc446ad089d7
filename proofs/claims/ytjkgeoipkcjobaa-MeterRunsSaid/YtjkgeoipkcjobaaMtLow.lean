/- The low bits of an int. -/
import Derived.Test.YtjkgeoipkcjobaaMtHead
namespace Go.Proofs.Ytjkgeoipkcjobaa
open Go.RowKit

theorem and_low (n : Int) (k : Nat) (hk : k < 63) : bits .and .i64 n ((2 ^ k - 1 : Nat) : Int) = n % ((2 ^ k : Nat) : Int) := by
  have hp : 2 ^ k ≤ 2 ^ 62 := Nat.pow_le_pow_right (by omega) (by omega)
  have hpos := Nat.two_pow_pos k
  have hm : (BitVec.ofInt 64 ((2 ^ k - 1 : Nat) : Int)).toNat = 2 ^ k - 1 := by
    rw [BitVec.toNat_ofInt]; omega
  have hd : (2 ^ k : Nat) ∣ 2 ^ 64 := Nat.pow_dvd_pow 2 (by omega)
  have key : (BitVec.ofInt 64 n &&& BitVec.ofInt 64 ((2 ^ k - 1 : Nat) : Int)).toNat = (n % ((2 ^ 64 : Nat) : Int)).toNat % 2 ^ k := by
    rw [BitVec.toNat_and, BitVec.toNat_ofInt, hm, Nat.and_two_pow_sub_one_eq_mod]
  show IntKind.i64.wrap ((BitVec.ofInt 64 n &&& BitVec.ofInt 64 ((2 ^ k - 1 : Nat) : Int)).toNat : Nat) = _
  rw [key, IntKind.wrap_i64]
  have e : (((n % ((2 ^ 64 : Nat) : Int)).toNat % 2 ^ k : Nat) : Int) = n % ((2 ^ k : Nat) : Int) := by
    rw [Int.natCast_emod, Int.toNat_of_nonneg (Int.emod_nonneg _ (by simp))]
    exact Int.emod_emod_of_dvd _ (Int.natCast_dvd_natCast.2 hd)
  rw [e]
  have h1 := Int.emod_nonneg n (show ((2 ^ k : Nat) : Int) ≠ 0 by omega)
  have h2 := Int.emod_lt_of_pos n (show (0 : Int) < ((2 ^ k : Nat) : Int) by omega)
  generalize n % ((2 ^ k : Nat) : Int) = z at *
  omega

theorem low20 (n : Int) : bits .and .i64 n 1048575 = n % 1048576 := and_low n 20 (by omega)
theorem low24 (n : Int) : bits .and .i64 n 16777215 = n % 16777216 := and_low n 24 (by omega)
theorem low16 (n : Int) : bits .and .i64 n 65535 = n % 65536 := and_low n 16 (by omega)
theorem low10 (n : Int) : bits .and .i64 n 1023 = n % 1024 := and_low n 10 (by omega)
theorem low8 (n : Int) : bits .and .i64 n 255 = n % 256 := and_low n 8 (by omega)
theorem low3 (n : Int) : bits .and .i64 n 7 = n % 8 := and_low n 3 (by omega)
/-- A setup in its box. -/
def CB (w : World) (c : Nat) (r bu mo be : Int) (cp aw sh : Bool) : Prop := w.heap[c]? = some (.cells #[.int .i64 r, .int .i64 bu, .int .i64 mo, .int .i64 be, .bool cp, .bool aw, .bool sh] 23 (0, 0))
section
variable {w w' : World} {c b : Nat} {r bu mo be : Int} {cp aw sh : Bool}
theorem CB.below (h : CB w c r bu mo be cp aw sh) (hb : Below w.heap.size w w') : CB w' c r bu mo be cp aw sh := (hb.block c (lt_of_heap h)).trans h
theorem CB.but (h : CB w c r bu mo be cp aw sh) (hb : ButB b w w') (hn : c ≠ b) : CB w' c r bu mo be cp aw sh := (hb.block c (lt_of_heap h) hn).trans h
theorem CB.cells (h : CB w c r bu mo be cp aw sh) : w.cell? ⟨c, 0, none⟩ = some (.int .i64 r) ∧ w.cell? ⟨c, 1, none⟩ = some (.int .i64 bu) ∧ w.cell? ⟨c, 2, none⟩ = some (.int .i64 mo) ∧ w.cell? ⟨c, 3, none⟩ = some (.int .i64 be) ∧ w.cell? ⟨c, 4, none⟩ = some (.bool cp) ∧ w.cell? ⟨c, 5, none⟩ = some (.bool aw) ∧ w.cell? ⟨c, 6, none⟩ = some (.bool sh) ∧
    w.frozen? ⟨c, 0, none⟩ = false ∧ w.frozen? ⟨c, 1, none⟩ = false ∧ w.frozen? ⟨c, 6, none⟩ = false :=
  ⟨cell_of_row _ _ _ _ _ _ h, cell_of_row _ _ _ _ _ _ h, cell_of_row _ _ _ _ _ _ h, cell_of_row _ _ _ _ _ _ h, cell_of_row _ _ _ _ _ _ h, cell_of_row _ _ _ _ _ _ h, cell_of_row _ _ _ _ _ _ h, frozen_of_row _ _ _ _ _ h, frozen_of_row _ _ _ _ _ h, frozen_of_row _ _ _ _ _ h⟩
theorem CB.new (w : World) (r bu mo be : Int) (cp aw sh : Bool) : CB (w.alloc (.cells #[.int .i64 r, .int .i64 bu, .int .i64 mo, .int .i64 be, .bool cp, .bool aw, .bool sh] 23)) w.heap.size r bu mo be cp aw sh := heap_alloc_new w _
end
/-- What was set up stays so. -/
structure MS.Is (m : MS) (r bu mo be : Int) (cp aw sh : Bool) : Prop where
  r : m.r = r
  bu : m.bu = bu
  mo : m.mo = mo
  be : m.be = be
  cp : m.cp = cp
  aw : m.aw = aw
  sh : m.sh = sh
theorem MS.Is.into {m : MS} {r bu mo be : Int} {cp aw sh : Bool} (h : m.Is r bu mo be cp aw sh) (now size : Int) (y : Bool) : (m.into now size y).Is r bu mo be cp aw sh := by
  have e := m.into_same now size y
  exact ⟨e.1.trans h.r, e.2.1.trans h.bu, e.2.2.1.trans h.mo, e.2.2.2.1.trans h.be, e.2.2.2.2.1.trans h.cp, e.2.2.2.2.2.1.trans h.aw, e.2.2.2.2.2.2.1.trans h.sh⟩
theorem MS.Is.m0 (r bu mo be now : Int) (cp aw sh : Bool) : (M0 r bu mo be now cp aw sh).Is r bu mo be cp aw sh := ⟨rfl, rfl, rfl, rfl, rfl, rfl, rfl⟩
theorem MS.Is.opened {m : MS} {r bu mo be : Int} {cp aw sh : Bool} (h : m.Is r bu mo be cp aw sh) (x : Bool) : ({ m with off := x } : MS).Is r bu mo be cp aw sh := ⟨h.r, h.bu, h.mo, h.be, h.cp, h.aw, h.sh⟩
theorem MS.Good.opened {m : MS} (g : m.Good) (x : Bool) : ({ m with off := x } : MS).Good := ⟨g.r0, g.r1, g.bu0, g.bu1, g.mo0, g.mo1, g.be0, g.be1, g.l0, g.l1, g.f0, g.f1, g.s0, g.s1⟩

end Go.Proofs.Ytjkgeoipkcjobaa
