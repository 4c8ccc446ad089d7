/- MeterRuns: the program's In and the reference's, side by side. Written by gen_mrlaw.py. -/
import Derived.Test.YtjkgeoipkcjobaaMrIn
import Derived.Test.YtjkgeoipkcjobaaMtIn
namespace Go.Proofs.Ytjkgeoipkcjobaa
open Go.RowKit Go.Joins Go.Deep

/-- A number whose digits lie in neither of these blocks. -/
def Kp (rb b : Nat) (w : World) (v : Value) (x : Int) : Prop := 0 ≤ x ∧ ∃ (k o c : Nat) (ds : List Nat), v = .slice (some ⟨k, o, none⟩) ds.length c ∧ ds.length ≤ c ∧ Dgs.Rd w k o ds ∧ Dgs.Dg.IsD ds x.toNat ∧ (0 < ds.length → k ≠ rb ∧ k ≠ b)
section
variable {rb b : Nat} {w w' : World} {v : Value} {x : Int}
theorem Kp.num (h : Kp rb b w v x) : NumZ 0 w v x := by
  obtain ⟨h0, k, o, c, ds, e, h1, h2, h3, _⟩ := h
  exact ⟨h0, ⟨k, o, c, ds, e, h1, h2, h3⟩, fun _ _ => Nat.zero_le _⟩
theorem Kp.of {B : Nat} (h : NumZ B w v x) (hr : rb < B) (hb : b < B) : Kp rb b w v x := by
  obtain ⟨h0, ⟨k, o, c, ds, rfl, h1, h2, h3⟩, hf⟩ := h
  have := hf k rfl
  exact ⟨h0, k, o, c, ds, rfl, h1, h2, h3, fun _ => ⟨by omega, by omega⟩⟩
theorem Kp.early {B : Nat} (h : NumZ B w v x) (hr : w.heap.size ≤ rb) (hb : b < B) : Kp rb b w v x := by
  obtain ⟨h0, ⟨k, o, c, ds, rfl, h1, h2, h3⟩, hf⟩ := h
  have := hf k rfl
  exact ⟨h0, k, o, c, ds, rfl, h1, h2, h3, fun hd => ⟨by have := (h2 hd).1; omega, by omega⟩⟩
theorem Kp.keep (h : Kp rb b w v x) (hs : w.heap.size ≤ w'.heap.size) (hk : ∀ k, k < w.heap.size → k ≠ rb → k ≠ b → w'.heap[k]? = w.heap[k]?) : Kp rb b w' v x := by
  obtain ⟨h0, k, o, c, ds, rfl, h1, h2, h3, h4⟩ := h
  refine ⟨h0, k, o, c, ds, rfl, h1, fun hd => ?_, h3, h4⟩
  obtain ⟨g1, g2⟩ := h2 hd
  obtain ⟨n1, n2⟩ := h4 hd
  refine ⟨by omega, fun j hj => ?_⟩
  have e := g2 j hj
  simp only [World.cell?] at e ⊢
  rw [hk k g1 n1 n2]
  exact e
theorem Kp.below (h : Kp rb b w v x) (hb : Below w.heap.size w w') : Kp rb b w' v x := h.keep hb.size (fun k hk _ _ => hb.block k hk)
theorem Kp.but (h : Kp rb b w v x) (hb : ButB b w w') : Kp rb b w' v x := h.keep hb.size (fun k hk _ n => hb.block k hk n)
theorem Kp.row (h : Kp rb b w v x) (cs : Array Value) : Kp rb b (w.setRow rb cs) v x := h.keep (Nat.le_of_eq (setRow_siz w rb cs).symm) (fun k _ n _ => setRow_other w rb k cs n)
theorem Kp.cell (h : Kp rb b w v x) (i : Nat) (u : Value) : Kp rb b (w.setCell ⟨rb, i, none⟩ u) v x := h.keep (by simp) (fun k _ n _ => heap_setCell_other w ⟨rb, i, none⟩ k u n)
theorem Kp.slice (h : Kp rb b w v x) : ∃ p n c, v = .slice (some p) n c := h.num.slice
end
/-- What the reference's In leaves. -/
def RPost (rb b : Nat) (m' : MS) (T f : Int) (W : World) (e : Ending) (w' : World) : Prop :=
  ∃ p1 n1 c1 p2 n2 c2, e = .returned (.tuple #[.agg (rrow m' (.slice (some p1) n1 c1) (.slice (some p2) n2 c2)), .int .i64 T, .int .i64 f]) ∧ Kp rb b w' (.slice (some p1) n1 c1) m'.fi ∧ Kp rb b w' (.slice (some p2) n2 c2) m'.se ∧ Below W.heap.size W w'
def RefIn (rb b : Nat) (m m' : MS) (now size : Int) (y : Bool) (T f : Int) : Prop :=
  ∀ (W : World) (pa pb : Addr) (na ca nb cb : Nat), rb < W.heap.size → b < W.heap.size → Kp rb b W (.slice (some pa) na ca) m.fi → Kp rb b W (.slice (some pb) nb cb) m.se → Calls Try.prog 16 #[.agg (rrow m (.slice (some pa) na ca) (.slice (some pb) nb cb)), .int .i64 now, .int .i64 size, .bool y] W (RPost rb b m' T f W)
def ProgIn (b : Nat) (m m' : MS) (now size : Int) (y : Bool) (T f : Int) : Prop :=
  ∀ W : World, Mtr W b m → Calls Try.prog 11 #[.pointer (some ⟨b, 0, none⟩), .int .i64 now, .int .i64 size, .bool y] W fun e w' => e = .returned (.tuple #[.int .i64 T, .int .i64 f]) ∧ Mtr w' b m' ∧ ButB b W w'
theorem RefIn.call {rb b : Nat} {m m' : MS} {now size T f : Int} {y : Bool} (h : RefIn rb b m m' now size y T f) {W : World} {pa pb : Addr} {na ca nb cb : Nat} (hr : rb < W.heap.size) (hb : b < W.heap.size) (hA : Kp rb b W (.slice (some pa) na ca) m.fi) (hB : Kp rb b W (.slice (some pb) nb cb) m.se) : Calls Try.prog 16 #[.agg (rrow m (.slice (some pa) na ca) (.slice (some pb) nb cb)), .int .i64 now, .int .i64 size, .bool y] W fun e w' => ∃ p1 n1 c1 p2 n2 c2, e = .returned (.tuple #[.agg (rrow m' (.slice (some p1) n1 c1) (.slice (some p2) n2 c2)), .int .i64 T, .int .i64 f]) ∧ Kp rb b w' (.slice (some p1) n1 c1) m'.fi ∧ Kp rb b w' (.slice (some p2) n2 c2) m'.se ∧ Below W.heap.size W w' := h W pa pb na ca nb cb hr hb hA hB
theorem ProgIn.call {b : Nat} {m m' : MS} {now size T f : Int} {y : Bool} (h : ProgIn b m m' now size y T f) {W : World} (hW : Mtr W b m) : Calls Try.prog 11 #[.pointer (some ⟨b, 0, none⟩), .int .i64 now, .int .i64 size, .bool y] W fun e w' => e = .returned (.tuple #[.int .i64 T, .int .i64 f]) ∧ Mtr w' b m' ∧ ButB b W w' := h W hW
theorem both_any (rb b : Nat) {m : MS} (g : m.Good) (now size : Int) (y : Bool) : ∃ (m' : MS) (T f : Int), m'.Good ∧ RefIn rb b m m' now size y T f ∧ ProgIn b m m' now size y T f := by
  by_cases hs : size < 0 ∨ 1600 < size
  · exact ⟨m, 2, 1, g, fun W pa pb na ca nb cb _ _ hA hB => (rin_size now size y hs).mono fun e w' ⟨h1, h2⟩ => ⟨pa, na, ca, pb, nb, cb, h1, hA.below h2, hB.below h2, h2⟩,
      fun W hW => (in_size b now size y W hs).mono fun e w' ⟨h1, h2⟩ => ⟨h1, hW.below h2, ButB.of_below h2⟩⟩
  have h0 : 0 ≤ size := by omega
  have h1 : size ≤ 1600 := by omega
  by_cases hl : now < m.last
  · exact ⟨m, 2, 31, g, fun W pa pb na ca nb cb _ _ hA hB => (rin_order now size y h0 h1 hl).mono fun e w' ⟨h1, h2⟩ => ⟨pa, na, ca, pb, nb, cb, h1, hA.below h2, hB.below h2, h2⟩,
      fun W hW => (in_order hW now size y h0 h1 hl).mono fun e w' ⟨h1, h2⟩ => ⟨h1, hW.below h2, ButB.of_below h2⟩⟩
  have h2 : m.last ≤ now := by omega
  by_cases ht : 1099511627776 < now
  · exact ⟨m, 2, 1, g, fun W pa pb na ca nb cb _ _ hA hB => (rin_late now size y h0 h1 h2 ht).mono fun e w' ⟨h1, h2⟩ => ⟨pa, na, ca, pb, nb, cb, h1, hA.below h2, hB.below h2, h2⟩,
      fun W hW => (in_late hW now size y h0 h1 h2 ht).mono fun e w' ⟨h1, h2⟩ => ⟨h1, hW.below h2, ButB.of_below h2⟩⟩
  have h3 : now ≤ 1099511627776 := by omega
  exact ⟨m.into now size y, m.told now size y, 0, g.into h2 h3 h0 y, fun W pa pb na ca nb cb hr hb hA hB => (rin_ok hA.num hB.num g now size y h0 h1 h2 h3).mono fun e w' ⟨p1, n1, c1, p2, n2, c2, he, hf, hs, hbl⟩ => ⟨p1, n1, c1, p2, n2, c2, he, Kp.of hf hr hb, Kp.of hs hr hb, hbl⟩,
    fun W hW => in_ok hW g now size y h0 h1 h2 h3⟩

end Go.Proofs.Ytjkgeoipkcjobaa
