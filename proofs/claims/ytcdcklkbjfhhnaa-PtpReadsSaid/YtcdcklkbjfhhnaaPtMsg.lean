/- Messages in plain numbers. -/
import Derived.Test.YtcdcklkbjfhhnaaPtPut
import Derived.Laws.Rows
namespace Go.Proofs.Ytcdcklkbjfhhnaa
open Go.RowKit Go.Joins

/-- A message: its numbers, and its path. -/
structure Mg where
  kind : Int
  dom : Int
  seq : Int
  src : Int
  port : Int
  corr : Int
  time : Int
  tw : Int
  tp : Int
  rate : Int
  one : Int
  cls : Int
  two : Int
  id : Int
  steps : Int
  path : List Int
/-- Its cells, where the path is at v. -/
def MC (m : Mg) (v : Value) : Array Value := #[.int .i64 m.kind, .int .i64 m.dom, .int .i64 m.seq, .int .i64 m.src, .int .i64 m.port, .int .i64 m.corr, .int .i64 m.time, .int .i64 m.tw, .int .i64 m.tp, .int .i64 m.rate, .int .i64 m.one, .int .i64 m.cls, .int .i64 m.two, .int .i64 m.id, .int .i64 m.steps, v]
def MV (m : Mg) (v : Value) : Value := .agg #[.int .i64 m.kind, .int .i64 m.dom, .int .i64 m.seq, .int .i64 m.src, .int .i64 m.port, .int .i64 m.corr, .int .i64 m.time, .int .i64 m.tw, .int .i64 m.tp, .int .i64 m.rate, .int .i64 m.one, .int .i64 m.cls, .int .i64 m.two, .int .i64 m.id, .int .i64 m.steps, v]
namespace Mg
/-- What its numbers can be at all. -/
def Wf (m : Mg) : Prop := In64 m.kind ∧ In64 m.dom ∧ In64 m.seq ∧ In64 m.src ∧ In64 m.port ∧ In64 m.corr ∧ In64 m.time ∧ In64 m.tw ∧ In64 m.tp ∧ In64 m.rate ∧ In64 m.one ∧ In64 m.cls ∧ In64 m.two ∧ In64 m.id ∧ In64 m.steps ∧ ∀ x ∈ m.path, In64 x
def ans (m : Mg) : Bool := m.kind == 3 || m.kind == 10
def bestB (m : Mg) : Bool := !(m.one == 0 && m.cls == 0 && m.two == 0 && m.id == 0)
/-- Something is set that its kind has no bytes for. -/
def besB (m : Mg) : Bool :=
  (!m.ans && !(m.kind == 8) && m.time != 0) || (!m.ans && (m.tw != 0 || m.tp != 0)) || (!(m.kind == 8) && m.rate != 0) || (!(m.kind == 11) && (m.bestB || m.steps != 0 || decide (0 < (m.path.length : Int))))
/-- What is wrong with it. -/
def chk (m : Mg) : Nat :=
  if kindB m.kind then
    if winB 127 [m.dom] && winB 65535 [m.seq, m.port, m.tp] && winB 281474976710655 [m.src, m.tw, m.id] && winB 255 [m.one, m.cls, m.two, m.steps] && !m.besB then
      if 32 < m.path.length then 4 else if winB 281474976710655 m.path then 0 else 1
    else 1
  else 23
/-- The bytes that each message has. -/
def head (m : Mg) : List Nat := bes 1 [16 + m.kind, m.dom] ++ bes 2 [m.seq] ++ bes 6 [m.src] ++ bes 2 [m.port] ++ bes 8 [m.corr]
def tail (m : Mg) : List Nat :=
  if m.kind = 3 ∨ m.kind = 10 then bes 8 [m.time] ++ bes 6 [m.tw] ++ bes 2 [m.tp]
  else if m.kind = 8 then bes 8 [m.time, m.rate]
  else if m.kind = 11 then bes 1 [m.one, m.cls, m.two] ++ bes 6 [m.id] ++ bes 1 [m.steps, (m.path.length : Int)] ++ bes 6 m.path
  else []
/-- Its bytes. -/
def text (m : Mg) : List Nat := m.head ++ m.tail
def zero : Mg := ⟨0, 0, 0, 0, 0, 0, 0, 0, 0, 0, 0, 0, 0, 0, 0, []⟩
end Mg

/-- A whole message loaded. -/
theorem wpList_loadM {ops : Array Oper} {rest : List Oper} {o : Oper} {a : Act} {w : World} {Q : Exit → Act → World → Prop} (hgd : o.guard = none) (x : Operand) (ho : o.op = .load 28 x)
    (g : Nat) (hx : a.eval x = .pointer (some ⟨g, 0, none⟩)) (cs : Array Value) (fr : Nat × Nat) (hg : w.heap[g]? = some (.cells cs 28 fr)) (hs : cs.size = 16)
    (h : wpList Try.prog ops Q rest (a.put o.dst (.agg cs)) w) : wpList Try.prog ops Q (o :: rest) a w :=
  wpList_load_row hgd 28 x ho g hx 28 cs fr _ hg Try.underlying28 rfl (by rw [hs]; kernel_rfl) h
/-- Stands only where a whole message is loaded. -/
theorem at_loadM {ops : Array Oper} {rest : List Oper} {d : Option Tmp} {x : Operand} {t : TypeId} {s : String} {af : Array Edge} {gd : Option (Nat × Bool)} {a : Act} {w : World} {Q : Exit → Act → World → Prop}
    (h : wpList Try.prog ops Q (⟨d, .load 28 x, t, s, af, gd⟩ :: rest) a w) : wpList Try.prog ops Q (⟨d, .load 28 x, t, s, af, gd⟩ :: rest) a w := h
/-- The block holds the message. -/
def Boxed (w : World) (g : Nat) (m : Mg) (v : Value) : Prop := w.heap[g]? = some (.cells (MC m v) 28 (0, 0))
section
variable {w w' : World} {g : Nat} {m : Mg} {v : Value}
theorem Boxed.oth (h : Boxed w g m v) (ho : Oth w w') : Boxed w' g m v := ho g _ _ _ h (by decide)
theorem Boxed.below (h : Boxed w g m v) (hb : Below w.heap.size w w') : Boxed w' g m v := h.oth (Oth.below hb)
theorem Boxed.lt (h : Boxed w g m v) : g < w.heap.size := by
  rcases Nat.lt_or_ge g w.heap.size with hl | hl
  · exact hl
  · unfold Boxed at h; rw [Array.getElem?_eq_none hl] at h; cases h
theorem Boxed.c0 (h : Boxed w g m v) : w.cell? ⟨g, 0, none⟩ = some (.int .i64 m.kind) := cell_of_row w g 0 _ _ _ h
theorem Boxed.c1 (h : Boxed w g m v) : w.cell? ⟨g, 1, none⟩ = some (.int .i64 m.dom) := cell_of_row w g 1 _ _ _ h
theorem Boxed.c2 (h : Boxed w g m v) : w.cell? ⟨g, 2, none⟩ = some (.int .i64 m.seq) := cell_of_row w g 2 _ _ _ h
theorem Boxed.c3 (h : Boxed w g m v) : w.cell? ⟨g, 3, none⟩ = some (.int .i64 m.src) := cell_of_row w g 3 _ _ _ h
theorem Boxed.c4 (h : Boxed w g m v) : w.cell? ⟨g, 4, none⟩ = some (.int .i64 m.port) := cell_of_row w g 4 _ _ _ h
theorem Boxed.c5 (h : Boxed w g m v) : w.cell? ⟨g, 5, none⟩ = some (.int .i64 m.corr) := cell_of_row w g 5 _ _ _ h
theorem Boxed.c6 (h : Boxed w g m v) : w.cell? ⟨g, 6, none⟩ = some (.int .i64 m.time) := cell_of_row w g 6 _ _ _ h
theorem Boxed.c7 (h : Boxed w g m v) : w.cell? ⟨g, 7, none⟩ = some (.int .i64 m.tw) := cell_of_row w g 7 _ _ _ h
theorem Boxed.c8 (h : Boxed w g m v) : w.cell? ⟨g, 8, none⟩ = some (.int .i64 m.tp) := cell_of_row w g 8 _ _ _ h
theorem Boxed.c9 (h : Boxed w g m v) : w.cell? ⟨g, 9, none⟩ = some (.int .i64 m.rate) := cell_of_row w g 9 _ _ _ h
theorem Boxed.c10 (h : Boxed w g m v) : w.cell? ⟨g, 10, none⟩ = some (.int .i64 m.one) := cell_of_row w g 10 _ _ _ h
theorem Boxed.c11 (h : Boxed w g m v) : w.cell? ⟨g, 11, none⟩ = some (.int .i64 m.cls) := cell_of_row w g 11 _ _ _ h
theorem Boxed.c12 (h : Boxed w g m v) : w.cell? ⟨g, 12, none⟩ = some (.int .i64 m.two) := cell_of_row w g 12 _ _ _ h
theorem Boxed.c13 (h : Boxed w g m v) : w.cell? ⟨g, 13, none⟩ = some (.int .i64 m.id) := cell_of_row w g 13 _ _ _ h
theorem Boxed.c14 (h : Boxed w g m v) : w.cell? ⟨g, 14, none⟩ = some (.int .i64 m.steps) := cell_of_row w g 14 _ _ _ h
theorem Boxed.c15 (h : Boxed w g m v) : w.cell? ⟨g, 15, none⟩ = some v := cell_of_row w g 15 _ _ _ h
end

end Go.Proofs.Ytcdcklkbjfhhnaa
