/- A frame in a block of its own: its cells. -/
import Derived.Test.YtbpkjljienadiaaEPut
namespace Go.Proofs.Ytbpkjljienadiaa
open Go.RowKit Go.Joins

def FC (f : Fr) (v : Value) : Array Value :=
  #[.int .u8 (f.d0 : Int), .int .u8 (f.d1 : Int), .int .u8 (f.d2 : Int), .int .u8 (f.d3 : Int), .int .u8 (f.d4 : Int), .int .u8 (f.d5 : Int), .int .u8 (f.s0 : Int), .int .u8 (f.s1 : Int), .int .u8 (f.s2 : Int), .int .u8 (f.s3 : Int), .int .u8 (f.s4 : Int), .int .u8 (f.s5 : Int), .bool f.tg, .int .i64 f.vid, .int .i64 f.prio, .bool f.dr, .bool f.mn, .int .i64 f.seq, .int .i64 f.typ, v]
/-- The block holds the frame. -/
def Boxed (w : World) (g : Nat) (f : Fr) (v : Value) : Prop := w.heap[g]? = some (.cells (FC f v) 26 (0, 0))
section
variable {w w' : World} {g : Nat} {f : Fr} {v : Value}
theorem Boxed.oth (h : Boxed w g f v) (ho : Oth w w') : Boxed w' g f v := ho g _ _ _ h (by decide)
theorem Boxed.below (h : Boxed w g f v) (hb : Below w.heap.size w w') : Boxed w' g f v := h.oth (Oth.below hb)
theorem Boxed.lt (h : Boxed w g f v) : g < w.heap.size := by
  rcases Nat.lt_or_ge g w.heap.size with hl | hl
  · exact hl
  · unfold Boxed at h; rw [Array.getElem?_eq_none hl] at h; cases h
theorem Boxed.c12 (h : Boxed w g f v) : w.cell? ⟨g, 12, none⟩ = some (.bool f.tg) := cell_of_row w g 12 _ _ _ h
theorem Boxed.c13 (h : Boxed w g f v) : w.cell? ⟨g, 13, none⟩ = some (.int .i64 f.vid) := cell_of_row w g 13 _ _ _ h
theorem Boxed.c14 (h : Boxed w g f v) : w.cell? ⟨g, 14, none⟩ = some (.int .i64 f.prio) := cell_of_row w g 14 _ _ _ h
theorem Boxed.c15 (h : Boxed w g f v) : w.cell? ⟨g, 15, none⟩ = some (.bool f.dr) := cell_of_row w g 15 _ _ _ h
theorem Boxed.c16 (h : Boxed w g f v) : w.cell? ⟨g, 16, none⟩ = some (.bool f.mn) := cell_of_row w g 16 _ _ _ h
theorem Boxed.c17 (h : Boxed w g f v) : w.cell? ⟨g, 17, none⟩ = some (.int .i64 f.seq) := cell_of_row w g 17 _ _ _ h
theorem Boxed.c18 (h : Boxed w g f v) : w.cell? ⟨g, 18, none⟩ = some (.int .i64 f.typ) := cell_of_row w g 18 _ _ _ h
theorem Boxed.c19 (h : Boxed w g f v) : w.cell? ⟨g, 19, none⟩ = some v := cell_of_row w g 19 _ _ _ h
theorem Boxed.dst (h : Boxed w g f v) (hx : Crc.Bytes f.heads) (c : Nat) (hc : 6 ≤ c) : BArg w (.slice (some ⟨g, 0, none⟩) 6 c) [f.d0, f.d1, f.d2, f.d3, f.d4, f.d5] := by
  refine ⟨fun x hm => hx x (show x ∈ [f.d0, f.d1, f.d2, f.d3, f.d4, f.d5] ++ [f.s0, f.s1, f.s2, f.s3, f.s4, f.s5] from List.mem_append_left _ hm), .inr ⟨by simp, g, 0, c, rfl, hc, fun _ => ⟨h.lt, fun k hk => ?_⟩⟩⟩
  have hk6 : k < 6 := hk
  have : k = 0 ∨ k = 1 ∨ k = 2 ∨ k = 3 ∨ k = 4 ∨ k = 5 := by clear hk; omega
  rw [Nat.zero_add, cell_of_row w g k _ _ _ h]
  rcases this with rfl | rfl | rfl | rfl | rfl | rfl <;> rfl
theorem Boxed.src (h : Boxed w g f v) (hx : Crc.Bytes f.heads) (c : Nat) (hc : 6 ≤ c) : BArg w (.slice (some ⟨g, 6, none⟩) 6 c) [f.s0, f.s1, f.s2, f.s3, f.s4, f.s5] := by
  refine ⟨fun x hm => hx x (show x ∈ [f.d0, f.d1, f.d2, f.d3, f.d4, f.d5] ++ [f.s0, f.s1, f.s2, f.s3, f.s4, f.s5] from List.mem_append_right _ hm), .inr ⟨by simp, g, 6, c, rfl, hc, fun _ => ⟨h.lt, fun k hk => ?_⟩⟩⟩
  have hk6 : k < 6 := hk
  have : k = 0 ∨ k = 1 ∨ k = 2 ∨ k = 3 ∨ k = 4 ∨ k = 5 := by clear hk; omega
  rw [cell_of_row w g (6 + k) _ _ _ h]
  rcases this with rfl | rfl | rfl | rfl | rfl | rfl <;> rfl
end
theorem BArg.oth {w w' : World} {v : Value} {xs : List Nat} (h : BArg w v xs) (hb : Below w.heap.size w w') : BArg w' v xs := h.below hb
theorem Oth.grown {w w' : World} (h : w.grownBy w' none) : Oth w w' := Oth.below (below_grown h)

/-- 'or' of numbers that share no bit. -/
theorem i64_or_nat (a b : Nat) (ha : a < 4611686018427387904) (hb : b < 4611686018427387904) : bits .or .i64 (a : Int) (b : Int) = ((a ||| b : Nat) : Int) := by
  have h : a ||| b < 2 ^ 62 := Nat.or_lt_two_pow ha hb
  show IntKind.i64.wrap ((BitVec.ofInt 64 (a : Int) ||| BitVec.ofInt 64 (b : Int)).toNat : Nat) = _
  rw [BitVec.toNat_or, BitVec.toNat_ofInt, BitVec.toNat_ofInt, show ((a : Int) % ((2 ^ 64 : Nat) : Int)).toNat = a by omega, show ((b : Int) % ((2 ^ 64 : Nat) : Int)).toNat = b by omega, IntKind.wrap_i64]
  omega
theorem or13 (p v : Nat) (hv : v < 8192) : p * 8192 ||| v = p * 8192 + v := by
  have := Nat.two_pow_add_eq_or_of_lt (i := 13) (b := v) (by omega) p
  rw [Nat.mul_comm p 8192]; exact this.symm
theorem or12 (v : Nat) (hv : v < 4096) : 4096 ||| v = 4096 + v := by
  have := Nat.two_pow_add_eq_or_of_lt (i := 12) (b := v) (by omega) 1
  exact this.symm
theorem how_or (p v : Nat) (hp : p ≤ 7) (hv : v ≤ 4094) : bits .or .i64 ((p : Int) * 8192) (v : Int) = ((p * 8192 + v : Nat) : Int) := by
  have := i64_or_nat (p * 8192) v (by omega) (by omega)
  rw [or13 p v (by omega)] at this
  rw [← this]; rfl
theorem how_or2 (p v : Nat) (hp : p ≤ 7) (hv : v ≤ 4094) : bits .or .i64 ((p * 8192 + v : Nat) : Int) 4096 = ((p * 8192 + 4096 + v : Nat) : Int) := by
  have := i64_or_nat (p * 8192 + v) 4096 (by omega) (by omega)
  rw [← or13 p v (by omega), Nat.or_assoc, Nat.or_comm v, or12 v (by omega), or13 p (4096 + v) (by omega), or13 p v (by omega)] at this
  rw [show p * 8192 + 4096 + v = p * 8192 + (4096 + v) by omega, ← this]; rfl

theorem two_small {a b k : Nat} (hk : k < [a, b].length) (ha : a < 65536) (hb : b < 65536) : [a, b].getD k 0 < 65536 := by
  have : k = 0 ∨ k = 1 := by simp at hk; omega
  rcases this with rfl | rfl <;> assumption
theorem three_small {a b d k : Nat} (hk : k < [a, b, d].length) (ha : a < 65536) (hb : b < 65536) (hd : d < 65536) : [a, b, d].getD k 0 < 65536 := by
  have : k = 0 ∨ k = 1 ∨ k = 2 := by simp at hk; omega
  rcases this with rfl | rfl | rfl <;> assumption

def sliceLen : Value → Nat
  | .slice _ n _ => n
  | _ => 0
def PadRel (w : World) (xs : List Nat) (bv : Value) (wr : World) : Prop :=
  ∃ j : Nat, xs.length + j ≤ max 60 xs.length ∧ OwnB w wr bv (xs ++ List.replicate j 0)
theorem pad_go {w w3 : World} {xs : List Nat} {j : Nat} {v : Value} (h : OwnB w w3 v ((xs ++ List.replicate j 0) ++ [0])) (hj : xs.length + j < 60) : PadRel w xs v w3 :=
  ⟨j + 1, by omega, own_eq h (by rw [List.append_assoc]; congr 1; rw [← List.replicate_succ' (n := j)])⟩
theorem pad_end {xs : List Nat} {j : Nat} (h1 : xs.length + j ≤ max 60 xs.length) (h2 : 60 ≤ xs.length + j) : xs ++ List.replicate j 0 = Fr.pad xs := by
  unfold Fr.pad; congr 2; omega

end Go.Proofs.Ytbpkjljienadiaa
