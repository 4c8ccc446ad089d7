/- Streams, flows and addresses in plain numbers, and where they lie. -/
import Derived.Test.YtpdfgdjomlogbabGtMem
import Derived.Maps.AppendAt
import Derived.Laws.ResultCell
import Derived.Laws.Rows
namespace Go.Proofs.Ytpdfgdjomlogbab
open Go.RowKit Go.Joins

/-- An address. -/
structure M6 where
  x0 : Int
  x1 : Int
  x2 : Int
  x3 : Int
  x4 : Int
  x5 : Int
deriving DecidableEq
abbrev MV (m : M6) : Value := .agg #[.int .u8 m.x0, .int .u8 m.x1, .int .u8 m.x2, .int .u8 m.x3, .int .u8 m.x4, .int .u8 m.x5]
abbrev MC (m : M6) : Array Value := #[.int .u8 m.x0, .int .u8 m.x1, .int .u8 m.x2, .int .u8 m.x3, .int .u8 m.x4, .int .u8 m.x5]
def M6.zero : M6 := ⟨0, 0, 0, 0, 0, 0⟩
/-- A stream. -/
structure Sm where
  port : Int
  vid : Int
  mac : M6
  src : Bool
  gate : Int
  prio : Int
  max : Int
  shut : Bool
  rate : Int
def SA (x : Sm) : Array Value := #[.int .i64 x.port, .int .i64 x.vid, .int .u8 x.mac.x0, .int .u8 x.mac.x1, .int .u8 x.mac.x2, .int .u8 x.mac.x3, .int .u8 x.mac.x4, .int .u8 x.mac.x5, .bool x.src, .int .i64 x.gate, .int .i64 x.prio, .int .i64 x.max, .bool x.shut, .int .i64 x.rate]
/-- A stream, and what has come of it. -/
structure Fl where
  st : Sm
  bl : Bool
  c0 : Int
  c1 : Int
  c2 : Int
  c3 : Int
  c4 : Int
  c5 : Int
def FA (f : Fl) : Array Value := #[.int .i64 f.st.port, .int .i64 f.st.vid, .int .u8 f.st.mac.x0, .int .u8 f.st.mac.x1, .int .u8 f.st.mac.x2, .int .u8 f.st.mac.x3, .int .u8 f.st.mac.x4, .int .u8 f.st.mac.x5, .bool f.st.src, .int .i64 f.st.gate, .int .i64 f.st.prio, .int .i64 f.st.max, .bool f.st.shut, .int .i64 f.st.rate, .bool f.bl, .int .i64 f.c0, .int .i64 f.c1, .int .i64 f.c2, .int .i64 f.c3, .int .i64 f.c4, .int .i64 f.c5]
def fl0 (x : Sm) : Fl := ⟨x, false, 0, 0, 0, 0, 0, 0⟩
instance : Inhabited Sm := ⟨⟨0, 0, M6.zero, false, 0, 0, 0, false, 0⟩⟩
instance : Inhabited Fl := ⟨fl0 default⟩
theorem SA_size (x : Sm) : (SA x).size = 14 := rfl
theorem FA_size (f : Fl) : (FA f).size = 21 := rfl
theorem SA_one (x : Sm) : (SA x).all (·.oneCell') = true := by simp [SA, Value.oneCell']
theorem FA_one (f : Fl) : (FA f).all (·.oneCell') = true := by simp [FA, Value.oneCell']
theorem SA_0 (x : Sm) : (SA x)[0]? = some (.int .i64 x.port) := rfl
theorem SA_1 (x : Sm) : (SA x)[1]? = some (.int .i64 x.vid) := rfl
theorem SA_2 (x : Sm) : (SA x)[2]? = some (.int .u8 x.mac.x0) := rfl
theorem SA_3 (x : Sm) : (SA x)[3]? = some (.int .u8 x.mac.x1) := rfl
theorem SA_4 (x : Sm) : (SA x)[4]? = some (.int .u8 x.mac.x2) := rfl
theorem SA_5 (x : Sm) : (SA x)[5]? = some (.int .u8 x.mac.x3) := rfl
theorem SA_6 (x : Sm) : (SA x)[6]? = some (.int .u8 x.mac.x4) := rfl
theorem SA_7 (x : Sm) : (SA x)[7]? = some (.int .u8 x.mac.x5) := rfl
theorem SA_8 (x : Sm) : (SA x)[8]? = some (.bool x.src) := rfl
theorem SA_9 (x : Sm) : (SA x)[9]? = some (.int .i64 x.gate) := rfl
theorem SA_10 (x : Sm) : (SA x)[10]? = some (.int .i64 x.prio) := rfl
theorem SA_11 (x : Sm) : (SA x)[11]? = some (.int .i64 x.max) := rfl
theorem SA_12 (x : Sm) : (SA x)[12]? = some (.bool x.shut) := rfl
theorem SA_13 (x : Sm) : (SA x)[13]? = some (.int .i64 x.rate) := rfl
theorem FA_st (f : Fl) (j : Nat) (v : Value) (h : (SA f.st).toList[j]? = some v) : (FA f).toList[j]? = some v := by
  have hj : j < 14 := by
    have := (List.getElem?_eq_some_iff.1 h).1
    simpa [SA] using this
  match j, hj with
  | 0, _ => exact h
  | 1, _ => exact h
  | 2, _ => exact h
  | 3, _ => exact h
  | 4, _ => exact h
  | 5, _ => exact h
  | 6, _ => exact h
  | 7, _ => exact h
  | 8, _ => exact h
  | 9, _ => exact h
  | 10, _ => exact h
  | 11, _ => exact h
  | 12, _ => exact h
  | 13, _ => exact h
theorem underM : True := trivial
set_option maxHeartbeats 2000000 in
theorem eqMac (a b : M6) (w : World) (x : Bool) (hx : decide (a = b) = x) : (Op.equalIn 10000 26 (MV a) (MV b)).run Try.prog w = .ok x w := by
  rcases a with ⟨a0, a1, a2, a3, a4, a5⟩
  rcases b with ⟨b0, b1, b2, b3, b4, b5⟩
  have u3 := Try.underlying5
  have aI := Try.isAgg5
  have zI := Try.sizeOf5
  rw [show (10000 : Nat) = 9999 + 1 from rfl, Op.equalIn]
  simp only [Sem.run_bind, run_underlying Try.underlying26, Result.andThen_ok]
  simp only [Std.Legacy.Range.forIn_eq_forIn_range', Std.Legacy.Range.size, Nat.sub_zero, Nat.add_sub_cancel, Nat.div_one, List.range'_succ, List.range'_zero, List.forIn_cons, List.forIn_nil]
  cases g0 : (a0 == b0) with
  | false =>
    have e : ¬ a0 = b0 := by simpa using g0
    subst hx
    rw [decide_eq_false (fun h => e (by injection h))]
    go_simp
  | true =>
  obtain rfl : a0 = b0 := by simpa using g0
  cases g1 : (a1 == b1) with
  | false =>
    have e : ¬ a1 = b1 := by simpa using g1
    subst hx
    rw [decide_eq_false (fun h => e (by injection h))]
    go_simp
  | true =>
  obtain rfl : a1 = b1 := by simpa using g1
  cases g2 : (a2 == b2) with
  | false =>
    have e : ¬ a2 = b2 := by simpa using g2
    subst hx
    rw [decide_eq_false (fun h => e (by injection h))]
    go_simp
  | true =>
  obtain rfl : a2 = b2 := by simpa using g2
  cases g3 : (a3 == b3) with
  | false =>
    have e : ¬ a3 = b3 := by simpa using g3
    subst hx
    rw [decide_eq_false (fun h => e (by injection h))]
    go_simp
  | true =>
  obtain rfl : a3 = b3 := by simpa using g3
  cases g4 : (a4 == b4) with
  | false =>
    have e : ¬ a4 = b4 := by simpa using g4
    subst hx
    rw [decide_eq_false (fun h => e (by injection h))]
    go_simp
  | true =>
  obtain rfl : a4 = b4 := by simpa using g4
  cases g5 : (a5 == b5) with
  | false =>
    have e : ¬ a5 = b5 := by simpa using g5
    subst hx
    rw [decide_eq_false (fun h => e (by injection h))]
    go_simp
  | true =>
  obtain rfl : a5 = b5 := by simpa using g5
  rw [decide_eq_true rfl] at hx
  subst hx
  go_simp
/-- Cells of many, one behind the other. -/
theorem flat_len {α : Type} (g : α → List Value) (m : Nat) (hg : ∀ x, (g x).length = m) : ∀ L : List α, (L.flatMap g).length = L.length * m
  | [] => by simp
  | x :: L => by rw [List.flatMap_cons, List.length_append, hg, flat_len g m hg L, List.length_cons, Nat.add_mul]; omega
theorem flat_at {α : Type} [Inhabited α] (g : α → List Value) (m : Nat) (hg : ∀ x, (g x).length = m) : ∀ (L : List α) (k j : Nat), k < L.length → j < m → (L.flatMap g)[k * m + j]? = (g (L.getD k default))[j]?
  | [], k, j, h, _ => by simp at h
  | x :: L, 0, j, _, hj => by
    rw [List.flatMap_cons, List.getElem?_append_left (by rw [hg]; omega)]
    simp
  | x :: L, k + 1, j, h, hj => by
    rw [List.flatMap_cons, List.getElem?_append_right (by rw [hg, Nat.add_mul]; omega), hg, show (k + 1) * m + j - m = k * m + j by rw [Nat.add_mul]; omega, flat_at g m hg L k j (by simpa using h) hj]
    simp
def fv (L : List Fl) : List Value := L.flatMap fun f => (FA f).toList
theorem fv_len (L : List Fl) : (fv L).length = L.length * 21 := flat_len _ 21 (fun f => by simp [FA_size]) L
theorem fv_at (L : List Fl) (k j : Nat) (hk : k < L.length) (hj : j < 21) : (fv L)[k * 21 + j]? = (FA (L.getD k default)).toList[j]? := flat_at _ 21 (fun f => by simp [FA_size]) L k j hk hj
theorem fv_one (f : Fl) : ∀ u ∈ (FA f).toList, u.oneCell' = true := by
  have h := FA_one f
  rw [Array.all_eq_true'] at h
  intro u hu
  exact h u (by simpa using hu)

end Go.Proofs.Ytpdfgdjomlogbab
