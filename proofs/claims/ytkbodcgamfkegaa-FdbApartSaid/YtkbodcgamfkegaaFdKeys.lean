/- The table's three maps. -/
import Derived.Test.YtkbodcgamfkegaaFdMap
import Derived.Test.YtkbodcgamfkegaaPost
namespace Go.Proofs.Ytkbodcgamfkegaa
open Go.RowKit Go.Joins Go.Maps Go.MapKept Go.ChangeMaps Go.WideMaps

theorem bAl {w w' : World} (h : Below w.heap.size w w') (o : Obj) : Below w.heap.size w (w'.alloc o) := h.alloc h.size o
theorem bDr {w w' : World} (h : Below w.heap.size w w') (n : Nat) : Below w.heap.size w (w'.drewN n) := ⟨h.os, h.tape, h.output, h.size, h.block⟩
theorem bTr {w w1 w2 : World} (h : Below w.heap.size w w1) (k : Below w1.heap.size w1 w2) : Below w.heap.size w w2 := h.trans (k.mono h.size)
theorem bSet {w w' : World} (h : Below w.heap.size w w') (p : Addr) (hp : w.heap.size ≤ p.block) (v : Value) : Below w.heap.size w (w'.setCell p v) := h.setCell hp v
theorem bRef (w : World) : Below w.heap.size w w := Below.refl _ _

/-- An address of six bytes. -/
structure Mc where
  y0 : Nat
  y1 : Nat
  y2 : Nat
  y3 : Nat
  y4 : Nat
  y5 : Nat
deriving DecidableEq
abbrev Pl := Int × Mc
structure Mc.Good (m : Mc) : Prop where
  g0 : m.y0 < 256
  g1 : m.y1 < 256
  g2 : m.y2 < 256
  g3 : m.y3 < 256
  g4 : m.y4 < 256
  g5 : m.y5 < 256
def In64 (x : Int) : Prop := -9223372036854775808 ≤ x ∧ x < 9223372036854775808
def Pl.Good (p : Pl) : Prop := In64 p.1 ∧ p.2.Good
abbrev PV (p : Pl) : Value := .agg #[.int .i64 p.1, .int .u8 (p.2.y0 : Int), .int .u8 (p.2.y1 : Int), .int .u8 (p.2.y2 : Int), .int .u8 (p.2.y3 : Int), .int .u8 (p.2.y4 : Int), .int .u8 (p.2.y5 : Int)]
theorem wf64 {x : Int} (h : In64 x) : (Lit.int .i64 x).wf = true := by
  unfold In64 at h
  have e : wrap64 x = x := by unfold wrap64; omega
  rw [← e]
  exact wrap64_wf x
theorem wf8 {x : Nat} (h : x < 256) : (Lit.int .u8 (x : Int)).wf = true := by
  simp [Lit.wf, IntKind.min, IntKind.max, IntKind.signed, IntKind.bits]; omega
theorem Try.laidOut : laidOutB Try.prog = true := by kernel_rfl
theorem Try.rowP : 42 < Try.prog.types.size := of_decide_eq_true (by kernel_rfl)
theorem Try.wideP : (match Try.prog.underlying 42 with | some (.array _ _) | some (.struct _) => true | _ => false) = true := by kernel_rfl
theorem Try.lawP : KeyLaw Try.prog 42 := deep_law_laid Try.laidOut (m := 3) (by omega) Try.rowP (by kernel_rfl) Try.wideP
theorem Try.keyP : Keyed Try.prog 42 := Keyed.of_law Try.lawP
theorem Try.keyTypeP : Try.prog.keyType 42 = true := by kernel_rfl
theorem Try.czP : Try.prog.cellsOf 42 = 7 := by kernel_rfl
theorem Try.czM : Try.prog.cellsOf 40 = 6 := by kernel_rfl
theorem Try.czI : Try.prog.cellsOf 3 = 1 := by kernel_rfl
theorem Try.czB : Try.prog.cellsOf 5 = 1 := by kernel_rfl
def klP (p : Pl) : Lit := .string (keyBytes [.int .i64 p.1, .int .u8 (p.2.y0 : Int), .int .u8 (p.2.y1 : Int), .int .u8 (p.2.y2 : Int), .int .u8 (p.2.y3 : Int), .int .u8 (p.2.y4 : Int), .int .u8 (p.2.y5 : Int)])
theorem klP_key (p : Pl) (h : p.Good) : keyOf Try.prog 42 (PV p) = some (klP p) := by
  obtain ⟨h1, h2⟩ := h
  have w := wf64 h1
  have w0 := wf8 h2.g0
  have w1 := wf8 h2.g1
  have w2 := wf8 h2.g2
  have w3 := wf8 h2.g3
  have w4 := wf8 h2.g4
  have w5 := wf8 h2.g5
  have hf : (PV p).formed Try.prog 42 = true := by simp [Value.formed, Try.underlying42, Try.czP]
  unfold keyOf
  rw [Try.underlying42]
  simp only [Try.keyTypeP, hf, Bool.and_self, if_true]
  have hs : ∃ d, Try.prog.types.size + 1 = d + 1 + 1 + 1 := ⟨Try.prog.types.size - 2, by have := Try.rowP; omega⟩
  obtain ⟨d, hd⟩ := hs
  rw [hd]
  have k1 : ∀ (x : Int) (n : Nat), (Lit.int .i64 x).wf = true → Try.prog.keyLits (n + 1) 3 [.int .i64 x] = some [.int .i64 x] := fun x n hx => by
    unfold Program.keyLits
    rw [Try.underlying3]
    simp [hx]
  have k2 : ∀ (x : Nat) (n : Nat), (Lit.int .u8 (x : Int)).wf = true → Try.prog.keyLits (n + 1) 5 [.int .u8 (x : Int)] = some [.int .u8 (x : Int)] := fun x n hx => by
    unfold Program.keyLits
    rw [Try.underlying5]
    simp [hx]
  have k3 : Try.prog.keyLits (d + 1 + 1) 40 [.int .u8 (p.2.y0 : Int), .int .u8 (p.2.y1 : Int), .int .u8 (p.2.y2 : Int), .int .u8 (p.2.y3 : Int), .int .u8 (p.2.y4 : Int), .int .u8 (p.2.y5 : Int)] = some [.int .u8 (p.2.y0 : Int), .int .u8 (p.2.y1 : Int), .int .u8 (p.2.y2 : Int), .int .u8 (p.2.y3 : Int), .int .u8 (p.2.y4 : Int), .int .u8 (p.2.y5 : Int)] := by
    unfold Program.keyLits
    rw [Try.underlying40]
    simp only [Try.czM, Try.czB]
    have er : List.range 6 = [0, 1, 2, 3, 4, 5] := rfl
    rw [er]
    simp [k2 _ _ w0, k2 _ _ w1, k2 _ _ w2, k2 _ _ w3, k2 _ _ w4, k2 _ _ w5]
  have k4 : Try.prog.keyLits (d + 1 + 1 + 1) 42 (PV p).cells.toList = some [.int .i64 p.1, .int .u8 (p.2.y0 : Int), .int .u8 (p.2.y1 : Int), .int .u8 (p.2.y2 : Int), .int .u8 (p.2.y3 : Int), .int .u8 (p.2.y4 : Int), .int .u8 (p.2.y5 : Int)] := by
    unfold Program.keyLits
    rw [Try.underlying42]
    simp [Value.cells, Try.czP, Try.czM, Try.czI, k1 _ _ w, k3]
  rw [k4]
  rfl

end Go.Proofs.Ytkbodcgamfkegaa
