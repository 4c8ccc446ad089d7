/- Bytes in memory: what is read, and what the call itself has made. -/
import Derived.Test.YtcdcklkbjfhhnaaCrc
import Derived.Test.YtcdcklkbjfhhnaaPost
import Derived.Test.YtcdcklkbjfhhnaaProg
import Derived.WalkKit
import Derived.WalkSpells
import Derived.WalkLawsBesides
import Derived.WalkMore
import Derived.Lib.Hide
import Derived.Laws.OwnMore
import Derived.Deep.AppendLies
import Derived.Deep.QuietTactic
import Derived.BigQuiet
namespace Go.Proofs.Ytcdcklkbjfhhnaa
open Go.RowKit

theorem bRef (w : World) : Below w.heap.size w w := Below.refl _ _
theorem bTr {w w1 w2 : World} (h : Below w.heap.size w w1) (k : Below w1.heap.size w1 w2) : Below w.heap.size w w2 := h.trans (k.mono h.size)
theorem bDr {B : Nat} {w w' : World} (h : Below B w w') (n : Nat) : Below B w (w'.drewN n) := ⟨h.os, h.tape, h.output, h.size, h.block⟩
theorem bDr1 {B : Nat} {w w' : World} (h : Below B w w') : Below B w w'.drew := ⟨h.os, h.tape, h.output, h.size, h.block⟩
theorem bAl {w w' : World} (h : Below w.heap.size w w') (o : Obj) : Below w.heap.size w (w'.alloc o) := h.alloc h.size o

/-- The call answers so, and leaves all that was there. -/
def Ret (f : Nat) (args : Array Value) (v : Value) : Prop := ∀ w, Calls Try.prog f args w fun e w' => e = .returned v ∧ Below w.heap.size w w'
theorem Ret.go {f : Nat} {args : Array Value} {v : Value} (h : Ret f args v) (w : World) : Calls Try.prog f args w fun e w' => e = .returned v ∧ Below w.heap.size w w' := h w
def RetQ (f : Nat) (args : Array Value) (v : Value) : Prop := ∀ w, Calls Try.prog f args w fun e w' => e = .returned v ∧ w = w'
theorem RetQ.go {f : Nat} {args : Array Value} {v : Value} (h : RetQ f args v) (w : World) : Calls Try.prog f args w fun e w' => e = .returned v ∧ w = w' := h w

theorem u32_bits (op : BinOp) (f : Nat → Nat → Nat) (a b : Nat) (hf : (BitVec.ofInt 32 (a : Int)).toNat = a → (BitVec.ofInt 32 (b : Int)).toNat = b → bits op .u32 (a : Int) (b : Int) = IntKind.u32.wrap ((f a b : Nat) : Int)) (ha : a < 4294967296) (hb : b < 4294967296) (h : f a b < 4294967296) :
    bits op .u32 (a : Int) (b : Int) = ((f a b : Nat) : Int) := by
  rw [hf (by rw [BitVec.toNat_ofInt]; omega) (by rw [BitVec.toNat_ofInt]; omega), IntKind.wrap_u32]
  omega
theorem u32_xor (a b : Nat) (ha : a < 4294967296) (hb : b < 4294967296) : bits .xor .u32 (a : Int) (b : Int) = ((a ^^^ b : Nat) : Int) := by
  refine u32_bits .xor (· ^^^ ·) a b (fun h1 h2 => ?_) ha hb (Crc.xor_lt a b ha hb)
  show IntKind.u32.wrap ((BitVec.ofInt 32 (a : Int) ^^^ BitVec.ofInt 32 (b : Int)).toNat : Nat) = _
  rw [BitVec.toNat_xor, h1, h2]

theorem u32_and1 (a : Nat) : bits .and .u32 (a : Int) 1 = ((a % 2 : Nat) : Int) := by
  show IntKind.u32.wrap ((BitVec.ofInt 32 (a : Int) &&& BitVec.ofInt 32 1).toNat : Nat) = _
  rw [BitVec.toNat_and, show (BitVec.ofInt 32 1).toNat = 2 ^ 1 - 1 from by decide, Nat.and_two_pow_sub_one_eq_mod, BitVec.toNat_ofInt, IntKind.wrap_u32]
  omega

/-- The value's elements are these bytes. -/
def Rd (w : World) (b o : Nat) (xs : List Nat) : Prop :=
  0 < xs.length → b < w.heap.size ∧ ∀ k, k < xs.length → w.cell? ⟨b, o + k, none⟩ = some (.int .u8 ((xs.getD k 0 : Nat) : Int))
def BArg (w : World) (v : Value) (xs : List Nat) : Prop :=
  Crc.Bytes xs ∧
  ((xs = [] ∧ ∃ a c, v = .slice a 0 c ∧ (a = none → c = 0)) ∨
   (0 < xs.length ∧ ∃ b o c, v = .slice (some ⟨b, o, none⟩) xs.length c ∧ xs.length ≤ c ∧ Rd w b o xs))

section
variable {w w' : World} {b o : Nat} {xs : List Nat} {v : Value}
theorem Rd.below (h : Rd w b o xs) (hb : Below w.heap.size w w') : Rd w' b o xs := fun h0 => by
  obtain ⟨hlt, hc⟩ := h h0
  exact ⟨Nat.lt_of_lt_of_le hlt hb.size, fun k hk => (hb.cell hlt).trans (hc k hk)⟩
theorem Rd.drewN (h : Rd w b o xs) (n : Nat) : Rd (w.drewN n) b o xs := h
theorem Rd.drew (h : Rd w b o xs) : Rd w.drew b o xs := h
theorem Rd.take (h : Rd w b o xs) (k : Nat) : Rd w b o (xs.take k) := fun h0 => by
  rw [List.length_take] at h0
  obtain ⟨hlt, hc⟩ := h (by omega)
  refine ⟨hlt, fun j hj => ?_⟩
  rw [List.length_take] at hj
  rw [hc j (by omega), List.getD_eq_getElem?_getD, List.getD_eq_getElem?_getD, List.getElem?_take, if_pos (by omega)]
theorem Rd.drop (h : Rd w b o xs) (k : Nat) : Rd w b (o + k) (xs.drop k) := fun h0 => by
  rw [List.length_drop] at h0
  obtain ⟨hlt, hc⟩ := h (by omega)
  refine ⟨hlt, fun j hj => ?_⟩
  rw [List.length_drop] at hj
  rw [Nat.add_assoc, hc (k + j) (by omega), List.getD_eq_getElem?_getD, List.getD_eq_getElem?_getD, List.getElem?_drop]
theorem BArg.below (h : BArg w v xs) (hb : Below w.heap.size w w') : BArg w' v xs := by
  obtain ⟨h1, h2⟩ := h
  refine ⟨h1, ?_⟩
  rcases h2 with h2 | ⟨h3, b, o, c, e, hc, hr⟩
  · exact .inl h2
  · exact .inr ⟨h3, b, o, c, e, hc, hr.below hb⟩
theorem BArg.drewN (h : BArg w v xs) (n : Nat) : BArg (w.drewN n) v xs := h
theorem BArg.drew (h : BArg w v xs) : BArg w.drew v xs := h
end

def SumPost (w : World) (xs : List Nat) (e : Ending) (w' : World) : Prop := e = .returned (.int .u32 ((Crc.sum xs : Nat) : Int)) ∧ Below w.heap.size w w'

theorem u32_not (x : Nat) (h : x < 4294967296) : bits BinOp.xor IntKind.u32 IntKind.u32.max (x : Int) = ((x ^^^ Crc.M : Nat) : Int) := by
  have := u32_xor Crc.M x (by decide) h
  rw [Nat.xor_comm] at this
  exact this

end Go.Proofs.Ytcdcklkbjfhhnaa
