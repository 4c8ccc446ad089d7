/- How many bits are set. -/
import Derived.Test.YtnkblihdgfhcdaaSqMem
namespace Go.Proofs.Ytnkblihdgfhcdaa
open Go.RowKit Go.Joins

def sw1 (x : Nat) : Nat := ((x / 2 &&& 6148914691236517205) + (x &&& 6148914691236517205)) % 18446744073709551616
def sw2 (x : Nat) : Nat := ((x / 4 &&& 3689348814741910323) + (x &&& 3689348814741910323)) % 18446744073709551616
def sw3 (x : Nat) : Nat := (x / 16 + x) % 18446744073709551616 &&& 1085102592571150095
def sw4 (x : Nat) : Nat := (x + x / 256) % 18446744073709551616
def sw5 (x : Nat) : Nat := (x + x / 65536) % 18446744073709551616
def sw6 (x : Nat) : Nat := (x + x / 4294967296) % 18446744073709551616
def ones (x : Nat) : Nat := sw6 (sw5 (sw4 (sw3 (sw2 (sw1 x))))) % 128
theorem ones_lt (x : Nat) : ones x < 128 := Nat.mod_lt _ (by decide)
theorem u64m (a : Nat) : IntKind.u64.wrap (a : Int) = ((a % 18446744073709551616 : Nat) : Int) := by rw [IntKind.wrap_u64]; omega
theorem sw1_eq (x : Nat) (h : x < 18446744073709551616) : IntKind.u64.wrap (bits .and .u64 ((x : Int) / 2) 6148914691236517205 + bits .and .u64 (x : Int) 6148914691236517205) = ((sw1 x : Nat) : Int) := by
  have e1 : bits .and .u64 ((x : Int) / 2) 6148914691236517205 = ((x / 2 &&& 6148914691236517205 : Nat) : Int) := by
    rw [show (x : Int) / 2 = ((x / 2 : Nat) : Int) by omega]
    exact bits_and_u64_nat (x / 2) 6148914691236517205 (by omega) (by omega)
  have e2 : bits .and .u64 (x : Int) 6148914691236517205 = ((x &&& 6148914691236517205 : Nat) : Int) := bits_and_u64_nat x 6148914691236517205 (by omega) (by omega)
  rw [e1, e2, ← Int.natCast_add, u64m]
  rfl
theorem sw2_eq (x : Nat) (h : x < 18446744073709551616) : IntKind.u64.wrap (bits .and .u64 ((x : Int) / 4) 3689348814741910323 + bits .and .u64 (x : Int) 3689348814741910323) = ((sw2 x : Nat) : Int) := by
  have e1 : bits .and .u64 ((x : Int) / 4) 3689348814741910323 = ((x / 4 &&& 3689348814741910323 : Nat) : Int) := by
    rw [show (x : Int) / 4 = ((x / 4 : Nat) : Int) by omega]
    exact bits_and_u64_nat (x / 4) 3689348814741910323 (by omega) (by omega)
  have e2 : bits .and .u64 (x : Int) 3689348814741910323 = ((x &&& 3689348814741910323 : Nat) : Int) := bits_and_u64_nat x 3689348814741910323 (by omega) (by omega)
  rw [e1, e2, ← Int.natCast_add, u64m]
  rfl
theorem sw3_eq (x : Nat) : bits .and .u64 (IntKind.u64.wrap ((x : Int) / 16 + (x : Int))) 1085102592571150095 = ((sw3 x : Nat) : Int) := by
  rw [show (x : Int) / 16 + (x : Int) = ((x / 16 + x : Nat) : Int) by omega, u64m]
  exact bits_and_u64_nat _ 1085102592571150095 (by omega) (by omega)
theorem sw4_eq (x : Nat) : IntKind.u64.wrap ((x : Int) + (x : Int) / 256) = ((sw4 x : Nat) : Int) := by
  rw [show (x : Int) + (x : Int) / 256 = ((x + x / 256 : Nat) : Int) by omega, u64m]; rfl
theorem sw5_eq (x : Nat) : IntKind.u64.wrap ((x : Int) + (x : Int) / 65536) = ((sw5 x : Nat) : Int) := by
  rw [show (x : Int) + (x : Int) / 65536 = ((x + x / 65536 : Nat) : Int) by omega, u64m]; rfl
theorem sw6_eq (x : Nat) : IntKind.u64.wrap ((x : Int) + (x : Int) / 4294967296) = ((sw6 x : Nat) : Int) := by
  rw [show (x : Int) + (x : Int) / 4294967296 = ((x + x / 4294967296 : Nat) : Int) by omega, u64m]; rfl
theorem sw1_lt (x : Nat) : sw1 x < 18446744073709551616 := Nat.mod_lt _ (by decide)
theorem sw2_lt (x : Nat) : sw2 x < 18446744073709551616 := Nat.mod_lt _ (by decide)
theorem sw6_lt (x : Nat) : sw6 x < 18446744073709551616 := Nat.mod_lt _ (by decide)
theorem fin7 (x : Nat) (h : x < 18446744073709551616) : bits .and .i64 (wrap64 (x : Int)) 127 = ((x % 128 : Nat) : Int) := by
  rw [low7]
  unfold wrap64
  omega
set_option maxHeartbeats 1000000 in
theorem ones_any (x : Nat) (h : x < 18446744073709551616) (w : World) : Calls Try.prog 46 #[.int .u64 (x : Int)] w fun e w' => e = .returned (.int .i64 ((ones x : Nat) : Int)) ∧ w' = w := by
  obtain ⟨res, hres⟩ : ∃ res, ones x = res := ⟨_, rfl⟩
  rw [hres]
  unfold ones at hres
  have e1 := sw1_eq x h
  have b1 := sw1_lt x
  generalize sw1 x = x1 at *
  have e2 := sw2_eq x1 b1
  generalize sw2 x1 = x2 at *
  have e3 := sw3_eq x2
  generalize sw3 x2 = x3 at *
  have e4 := sw4_eq x3
  generalize sw4 x3 = x4 at *
  have e5 := sw5_eq x4
  generalize sw5 x4 = x5 at *
  have e6 := sw6_eq x5
  have b6 := sw6_lt x5
  generalize sw6 x5 = x6 at *
  have HR := Lib.hid hres
  clear hres b1
  go_enter Try.func46, Try.ntmps46
  go_wp2_with fail
  go_ret
  refine ⟨?_, rfl⟩
  refine ret_i ?_
  rw [fin7 x6 b6, HR.out]

end Go.Proofs.Ytnkblihdgfhcdaa
