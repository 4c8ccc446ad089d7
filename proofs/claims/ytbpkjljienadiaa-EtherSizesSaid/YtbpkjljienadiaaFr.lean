/- Frames in plain numbers: what they are, what is wrong with them, how long they are, their bytes. -/
import Derived.Test.YtbpkjljienadiaaByt
namespace Go.Proofs.Ytbpkjljienadiaa
open Go.RowKit

/-- A frame: its numbers, and the bytes of its data. -/
structure Fr where
  d0 : Nat
  d1 : Nat
  d2 : Nat
  d3 : Nat
  d4 : Nat
  d5 : Nat
  s0 : Nat
  s1 : Nat
  s2 : Nat
  s3 : Nat
  s4 : Nat
  s5 : Nat
  tg : Bool
  vid : Int
  prio : Int
  dr : Bool
  mn : Bool
  seq : Int
  typ : Int
  data : List Nat

/-- Its value, where the data are at v. -/
def FV (f : Fr) (v : Value) : Value :=
  .agg #[.int .u8 (f.d0 : Int), .int .u8 (f.d1 : Int), .int .u8 (f.d2 : Int), .int .u8 (f.d3 : Int), .int .u8 (f.d4 : Int), .int .u8 (f.d5 : Int), .int .u8 (f.s0 : Int), .int .u8 (f.s1 : Int), .int .u8 (f.s2 : Int), .int .u8 (f.s3 : Int), .int .u8 (f.s4 : Int), .int .u8 (f.s5 : Int), .bool f.tg, .int .i64 f.vid, .int .i64 f.prio, .bool f.dr, .bool f.mn, .int .i64 f.seq, .int .i64 f.typ, v]

namespace Fr
/-- The addresses' bytes. -/
def heads (f : Fr) : List Nat := [f.d0, f.d1, f.d2, f.d3, f.d4, f.d5, f.s0, f.s1, f.s2, f.s3, f.s4, f.s5]
/-- What its numbers can be at all. -/
def Wf (f : Fr) : Prop :=
  Crc.Bytes f.heads ∧ Crc.Bytes f.data ∧ -9223372036854775808 ≤ f.vid ∧ f.vid < 9223372036854775808 ∧ -9223372036854775808 ≤ f.prio ∧ f.prio < 9223372036854775808 ∧ -9223372036854775808 ≤ f.seq ∧ f.seq < 9223372036854775808 ∧ -9223372036854775808 ≤ f.typ ∧ f.typ < 9223372036854775808
def extra (f : Fr) : Nat := (if f.tg then 4 else 0) + (if f.mn then 6 else 0)
/-- How many bytes it has. -/
def size (f : Fr) : Nat := max (20 + f.data.length + f.extra) 64
/-- Its numbers are right. -/
def Right (f : Fr) : Prop :=
  0 ≤ f.vid ∧ f.vid ≤ 4094 ∧ 0 ≤ f.prio ∧ f.prio ≤ 7 ∧ 0 ≤ f.seq ∧ f.seq ≤ 65535 ∧ 1536 ≤ f.typ ∧ f.typ ≤ 65535 ∧
  (f.tg = false → f.vid = 0 ∧ f.prio = 0 ∧ f.dr = false) ∧ (f.mn = false → f.seq = 0)
instance (f : Fr) : Decidable f.Right := by unfold Right; infer_instance
/-- What is wrong with it. -/
def chk (f : Fr) : Nat :=
  if f.Right then (if f.typ = 33024 ∨ f.typ = 61889 then 23 else if 1600 < f.size then 3 else 0) else 1
/-- The two bytes behind the VLAN's type. -/
def how (f : Fr) : Nat := f.prio.toNat * 8192 + (if f.dr then 4096 else 0) + f.vid.toNat
def two (x : Nat) : List Nat := [x / 256 % 256, x % 256]
def tags (f : Fr) : List Nat := (if f.tg then two 33024 ++ two f.how else []) ++ (if f.mn then two 61889 ++ two 0 ++ two f.seq.toNat else [])
/-- Its bytes, without what is filled in and without the check. -/
def ins (f : Fr) : List Nat := f.heads ++ f.tags ++ two f.typ.toNat ++ two f.data.length ++ f.data
def pad (l : List Nat) : List Nat := l ++ List.replicate (60 - l.length) 0
/-- Its bytes ahead of the check. -/
def text (f : Fr) : List Nat := pad f.ins

theorem two_len (x : Nat) : (two x).length = 2 := rfl
theorem tags_len (f : Fr) : f.tags.length = f.extra := by
  unfold tags extra
  cases f.tg <;> cases f.mn <;> rfl
theorem ins_len (f : Fr) : f.ins.length = 16 + f.data.length + f.extra := by
  unfold ins
  simp only [List.length_append, tags_len, two_len]
  simp [heads]; omega
theorem text_len (f : Fr) : f.text.length = f.size - 4 := by
  unfold text pad size
  rw [List.length_append, List.length_replicate, ins_len]; omega
theorem size_ge (f : Fr) : 64 ≤ f.size := by unfold size; omega
theorem two_bytes (x : Nat) : Crc.Bytes (two x) := by
  intro y hy; simp [two] at hy; omega
theorem bytes_app {a b : List Nat} (ha : Crc.Bytes a) (hb : Crc.Bytes b) : Crc.Bytes (a ++ b) := fun x hx => (List.mem_append.1 hx).elim (ha x) (hb x)
theorem bytes_nil : Crc.Bytes [] := fun x hx => by simp at hx
theorem tags_bytes (f : Fr) : Crc.Bytes f.tags := by
  unfold tags
  refine bytes_app ?_ ?_
  · split
    · exact bytes_app (two_bytes _) (two_bytes _)
    · exact bytes_nil
  · split
    · exact bytes_app (bytes_app (two_bytes _) (two_bytes _)) (two_bytes _)
    · exact bytes_nil
theorem ins_bytes {f : Fr} (h : f.Wf) : Crc.Bytes f.ins := bytes_app (bytes_app (bytes_app (bytes_app h.1 f.tags_bytes) (two_bytes _)) (two_bytes _)) h.2.1
theorem zeros_bytes (n : Nat) : Crc.Bytes (List.replicate n 0) := fun x hx => by
  rw [(List.mem_replicate.1 hx).2]; decide
theorem text_bytes {f : Fr} (h : f.Wf) : Crc.Bytes f.text := bytes_app (ins_bytes h) (zeros_bytes _)
theorem chk_zero {f : Fr} : f.chk = 0 ↔ f.Right ∧ f.typ ≠ 33024 ∧ f.typ ≠ 61889 ∧ f.size ≤ 1600 := by
  unfold chk
  by_cases h1 : f.Right
  · rw [if_pos h1]
    by_cases h2 : f.typ = 33024 ∨ f.typ = 61889
    · rw [if_pos h2]; simp only [reduceCtorEq, false_iff]; rintro ⟨_, a, b, _⟩; rcases h2 with h | h <;> contradiction
    · rw [if_neg h2]
      by_cases h3 : 1600 < f.size
      · rw [if_pos h3]; simp only [reduceCtorEq, false_iff]; rintro ⟨_, _, _, d⟩; omega
      · rw [if_neg h3]; simp only [true_iff]; exact ⟨h1, fun e => h2 (.inl e), fun e => h2 (.inr e), by omega⟩
  · rw [if_neg h1]; simp only [reduceCtorEq, false_iff]; rintro ⟨a, _⟩; exact h1 a
/-- No frame: all noughts. -/
def zero : Fr := ⟨0, 0, 0, 0, 0, 0, 0, 0, 0, 0, 0, 0, false, 0, 0, false, false, 0, 0, []⟩
end Fr

theorem ret_i64 {x y : Int} (h : x = y) : Ending.returned (Value.int .i64 x) = Ending.returned (.int .i64 y) := by rw [h]
theorem max64 (a : Nat) (x : Int) (h : x = max (a : Int) 64) : x = ((max a 64 : Nat) : Int) := by rw [h]; omega
/-- The frame's data are read at v. -/
def FArg (w : World) (v : Value) (f : Fr) : Prop := f.Wf ∧ BArg w v f.data

end Go.Proofs.Ytbpkjljienadiaa
