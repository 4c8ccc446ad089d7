/- A table in memory. -/
import Derived.Test.YtkbodcgamfkegaaFdKeys
namespace Go.Proofs.Ytkbodcgamfkegaa
open Go.RowKit Go.Joins Go.Maps Go.MapKept Go.ChangeMaps Go.WideMaps

abbrev V2 (c : Int × Int) : Value := .agg #[.int .i64 c.1, .int .i64 c.2]
def enc2 (c : Int × Int) : DataW Unit := .agg [.lit (.int .i64 c.1), .lit (.int .i64 c.2)]
def R2 (v : Value) : Option (DataW Unit × List MemPlace) :=
  match v with
  | .agg cs => match cs.toList with
    | [.int .i64 a, .int .i64 b] => some (enc2 (a, b), [])
    | _ => none
  | _ => none
theorem R2_inv (v : Value) (c : Int × Int) (ps : List MemPlace) (h : R2 v = some (enc2 c, ps)) : v = V2 c := by
  unfold R2 at h
  split at h
  · rename_i cs
    split at h
    · rename_i a b hc
      injection h with h
      injection h with h1 h2
      unfold enc2 at h1
      injection h1 with h1
      injection h1 with h1 h3
      injection h1 with h1
      injection h1 with _ h1
      injection h3 with h3 _
      injection h3 with h3
      injection h3 with _ h3
      obtain ⟨l⟩ := cs
      simp only at hc
      subst hc
      simp only at h1 h3
      subst h1 h3
      rfl
    · cases h
  · cases h
def R1 (v : Value) : Option (DataW Unit × List MemPlace) :=
  match v with
  | .int .i64 a => some (.lit (.int .i64 a), [])
  | _ => none
theorem R1_inv (v : Value) (c : Int) (ps : List MemPlace) (h : R1 v = some (.lit (.int .i64 c), ps)) : v = .int .i64 c := by
  unfold R1 at h
  split at h
  · injection h with h
    injection h with h1 h2
    injection h1 with h1
    injection h1 with _ h1
    rw [h1]
  · cases h
theorem PV_inj (p q : Pl) (h : PV p = PV q) : p = q := by
  obtain ⟨a, a0, a1, a2, a3, a4, a5⟩ := p
  obtain ⟨b, b0, b1, b2, b3, b4, b5⟩ := q
  simp at h
  obtain ⟨rfl, h0, h1, h2, h3, h4, h5⟩ := h
  have e0 : a0 = b0 := by omega
  have e1 : a1 = b1 := by omega
  have e2 : a2 = b2 := by omega
  have e3 : a3 = b3 := by omega
  have e4 : a4 = b4 := by omega
  have e5 : a5 = b5 := by omega
  subst e0 e1 e2 e3 e4 e5
  rfl
/-- VLANs by their numbers; addresses that were said; those that were seen. -/
def MV : MK Try.prog Int (Int × Int) where
  t := 77
  k := 3
  e := 50
  K := int_keyed Try.underlying3
  ht := Try.underlying77
  good := In64
  mkK := fun a => .int .i64 a
  kl := fun a => .int .i64 a
  key := fun a h => keyOf_int_mk Try.underlying3 (wf64 h)
  inj := fun a b h => by injection h
  mkV := V2
  R := R2
  enc := enc2
  hR := fun _ => rfl
  invR := R2_inv
  zero := (0, 0)
  hz := fun _ => by kernel_rfl
def MS : MK Try.prog Pl Int where
  t := 78
  k := 42
  e := 3
  K := Try.keyP
  ht := Try.underlying78
  good := Pl.Good
  mkK := PV
  kl := klP
  key := klP_key
  inj := PV_inj
  mkV := fun c => .int .i64 c
  R := R1
  enc := fun c => .lit (.int .i64 c)
  hR := fun _ => rfl
  invR := R1_inv
  zero := 0
  hz := fun _ => by kernel_rfl
def ME : MK Try.prog Pl (Int × Int) where
  t := 79
  k := 42
  e := 86
  K := Try.keyP
  ht := Try.underlying79
  good := Pl.Good
  mkK := PV
  kl := klP
  key := klP_key
  inj := PV_inj
  mkV := V2
  R := R2
  enc := enc2
  hR := fun _ => rfl
  invR := R2_inv
  zero := (0, 0)
  hz := fun _ => by kernel_rfl

/-- A table's blocks. -/
structure TB where
  t : Nat
  p : Nat
  v : Nat
  s : Nat
  e : Nat
/-- What a table holds. -/
structure TS where
  n : Nat
  room : Int
  F : Nat → Int
  V : List (Int × (Int × Int))
  S : List (Pl × Int)
  E : List (Pl × (Int × Int))
/-- The ports' row. -/
def Prt (w : World) (b n : Nat) (F : Nat → Int) : Prop := ∃ cs : Array Value, w.heap[b]? = some (.cells cs 54 (0, 0)) ∧ cs.size = n * 9 ∧ ∀ i, i < n * 9 → cs[i]? = some (.int .i64 (F i))
structure Tab (B : Nat) (w : World) (b : TB) (m : Nat) (s : TS) : Prop where
  row : w.heap[b.t]? = some (.cells #[.slice (some ⟨b.p, 0, none⟩) s.n s.n, .int .i64 s.room, .map (some b.v), .map (some b.s), .map (some b.e)] 81 (0, 0))
  prt : Prt w b.p s.n s.F
  mv : MapL MV w b.v m s.V
  ms : MapL MS w b.s m s.S
  me : MapL ME w b.e m s.E
  n0 : 1 ≤ s.n
  n8 : s.n ≤ 8
  bt : B ≤ b.t
  bp : B ≤ b.p
  bv : B ≤ b.v
  bs : B ≤ b.s
  be : B ≤ b.e
  vs : b.v ≠ b.s
  ve : b.v ≠ b.e
  se : b.s ≠ b.e
theorem lt_of_heap {w : World} {k : Nat} {o : Obj} (h : w.heap[k]? = some o) : k < w.heap.size := by
  rcases Nat.lt_or_ge k w.heap.size with g | g
  · exact g
  · rw [Array.getElem?_eq_none g] at h; cases h
section
variable {B m : Nat} {w w' : World} {b : TB} {s : TS}
/-- Blocks that stay. -/
theorem Tab.heap (h : Tab B w b m s) (ht : w'.heap[b.t]? = w.heap[b.t]?) (hp : w'.heap[b.p]? = w.heap[b.p]?) (hv : w'.heap[b.v]? = w.heap[b.v]?) (hs : w'.heap[b.s]? = w.heap[b.s]?) (he : w'.heap[b.e]? = w.heap[b.e]?) : Tab B w' b m s := by
  obtain ⟨cs, p1, p2⟩ := h.prt
  exact ⟨ht.trans h.row, ⟨cs, hp.trans p1, p2⟩, h.mv.heap hv, h.ms.heap hs, h.me.heap he, h.n0, h.n8, h.bt, h.bp, h.bv, h.bs, h.be, h.vs, h.ve, h.se⟩
theorem Tab.lt (h : Tab B w b m s) : b.t < w.heap.size ∧ b.p < w.heap.size ∧ b.v < w.heap.size ∧ b.s < w.heap.size ∧ b.e < w.heap.size := by
  obtain ⟨cs, p1, p2⟩ := h.prt
  exact ⟨lt_of_heap h.row, lt_of_heap p1, h.mv.lt, h.ms.lt, h.me.lt⟩
theorem Tab.below (h : Tab B w b m s) (hb : Below w.heap.size w w') : Tab B w' b m s := by
  obtain ⟨h1, h2, h3, h4, h5⟩ := h.lt
  exact h.heap (hb.block _ h1) (hb.block _ h2) (hb.block _ h3) (hb.block _ h4) (hb.block _ h5)
theorem Tab.cells (h : Tab B w b m s) : w.cell? ⟨b.t, 0, none⟩ = some (.slice (some ⟨b.p, 0, none⟩) s.n s.n) ∧ w.cell? ⟨b.t, 1, none⟩ = some (.int .i64 s.room) ∧ w.cell? ⟨b.t, 2, none⟩ = some (.map (some b.v)) ∧ w.cell? ⟨b.t, 3, none⟩ = some (.map (some b.s)) ∧ w.cell? ⟨b.t, 4, none⟩ = some (.map (some b.e)) :=
  ⟨cell_of_row _ _ _ _ _ _ h.row, cell_of_row _ _ _ _ _ _ h.row, cell_of_row _ _ _ _ _ _ h.row, cell_of_row _ _ _ _ _ _ h.row, cell_of_row _ _ _ _ _ _ h.row⟩
/-- The map's turns: all but one block stays. -/
theorem turned_block {b k : Nat} (h : w.mapTurned w' b) (hk : k ≠ b) : w'.heap[k]? = w.heap[k]? := by
  obtain ⟨es, cl, es', cl', hb, rfl⟩ := h
  exact heap_setBlock_other hb _ hk
theorem turned_not {b k : Nat} {cs : Array Value} {t : TypeId} {fr : Nat × Nat} (h : w.mapTurned w' b) (hk : w.heap[k]? = some (.cells cs t fr)) : k ≠ b := fun e => by
  obtain ⟨es, cl, es', cl', hb, _⟩ := h
  rw [e, hb] at hk
  cases hk
theorem turned_below {B b : Nat} (h : w.mapTurned w' b) (hB : B ≤ b) : Below B w w' := by
  have g := h.grown
  exact ⟨g.os, g.tape, g.output, g.size, fun k hk => turned_block h (by omega)⟩
theorem Tab.setV (h : Tab B w b m s) (ht : w.mapTurned w' b.v) {m' : Nat} (hm : m ≤ m') {V' : List (Int × (Int × Int))} (hn : MapL MV w' b.v m' V') : Tab B w' b m' { s with V := V' } := by
  obtain ⟨cs, p1, p2⟩ := h.prt
  exact ⟨(turned_block ht (turned_not ht h.row)).trans h.row, ⟨cs, (turned_block ht (turned_not ht p1)).trans p1, p2⟩, hn, (h.ms.heap (turned_block ht h.vs.symm)).mono hm, (h.me.heap (turned_block ht h.ve.symm)).mono hm, h.n0, h.n8, h.bt, h.bp, h.bv, h.bs, h.be, h.vs, h.ve, h.se⟩
theorem Tab.setS (h : Tab B w b m s) (ht : w.mapTurned w' b.s) {m' : Nat} (hm : m ≤ m') {S' : List (Pl × Int)} (hn : MapL MS w' b.s m' S') : Tab B w' b m' { s with S := S' } := by
  obtain ⟨cs, p1, p2⟩ := h.prt
  exact ⟨(turned_block ht (turned_not ht h.row)).trans h.row, ⟨cs, (turned_block ht (turned_not ht p1)).trans p1, p2⟩, (h.mv.heap (turned_block ht h.vs)).mono hm, hn, (h.me.heap (turned_block ht h.se.symm)).mono hm, h.n0, h.n8, h.bt, h.bp, h.bv, h.bs, h.be, h.vs, h.ve, h.se⟩
theorem Tab.setE (h : Tab B w b m s) (ht : w.mapTurned w' b.e) {m' : Nat} (hm : m ≤ m') {E' : List (Pl × (Int × Int))} (hn : MapL ME w' b.e m' E') : Tab B w' b m' { s with E := E' } := by
  obtain ⟨cs, p1, p2⟩ := h.prt
  exact ⟨(turned_block ht (turned_not ht h.row)).trans h.row, ⟨cs, (turned_block ht (turned_not ht p1)).trans p1, p2⟩, (h.mv.heap (turned_block ht h.ve)).mono hm, (h.ms.heap (turned_block ht h.se)).mono hm, hn, h.n0, h.n8, h.bt, h.bp, h.bv, h.bs, h.be, h.vs, h.ve, h.se⟩
end

/-- All blocks but one are as they were. -/
structure ButB (b : Nat) (w w' : World) : Prop where
  os : w'.os = w.os
  tape : w'.tape = w.tape
  output : w'.output = w.output
  size : w.heap.size ≤ w'.heap.size
  block : ∀ k, k < w.heap.size → k ≠ b → w'.heap[k]? = w.heap[k]?
theorem ButB.trans {b : Nat} {w w1 w2 : World} (h : ButB b w w1) (k : ButB b w1 w2) : ButB b w w2 :=
  ⟨k.os.trans h.os, k.tape.trans h.tape, k.output.trans h.output, Nat.le_trans h.size k.size, fun i hi hn => (k.block i (Nat.lt_of_lt_of_le hi h.size) hn).trans (h.block i hi hn)⟩
theorem ButB.of_below {b : Nat} {w w1 : World} (h : Below w.heap.size w w1) : ButB b w w1 := ⟨h.os, h.tape, h.output, h.size, fun k hk _ => h.block k hk⟩
theorem ButB.turned {b : Nat} {w w1 : World} (h : w.mapTurned w1 b) : ButB b w w1 := by
  have g := h.grown
  exact ⟨g.os, g.tape, g.output, g.size, fun k hk hn => turned_block h hn⟩
theorem ButB.below {b B : Nat} {w w1 : World} (h : ButB b w w1) (hB : B ≤ b) (hb : b < w.heap.size) : Below B w w1 :=
  ⟨h.os, h.tape, h.output, h.size, fun k hk => h.block k (by omega) (by omega)⟩
theorem Tab.nbox {B m g : Nat} {w : World} {b : TB} {s : TS} {cs : Array Value} {t : TypeId} {fr : Nat × Nat} (h : Tab B w b m s) (hg : w.heap[g]? = some (.cells cs t fr)) : g ≠ b.v ∧ g ≠ b.s ∧ g ≠ b.e := by
  obtain ⟨_, ⟨_, _, v1, _⟩, _⟩ := h.mv
  obtain ⟨_, ⟨_, _, s1, _⟩, _⟩ := h.ms
  obtain ⟨_, ⟨_, _, e1, _⟩, _⟩ := h.me
  refine ⟨fun e => ?_, fun e => ?_, fun e => ?_⟩
  · rw [e, v1] at hg; cases hg
  · rw [e, s1] at hg; cases hg
  · rw [e, e1] at hg; cases hg

end Go.Proofs.Ytkbodcgamfkegaa
