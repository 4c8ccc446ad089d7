/- The reference's Decode in parts: its path. Written by gen_ptref11.py. -/
import Derived.Test.YtcdcklkbjfhhnaaPtRef12
namespace Go.Proofs.Ytcdcklkbjfhhnaa
open Go.RowKit Go.Joins Go.Deep

theorem six_facts {k i : Nat} (h1 : k < 140737488355328) (h2 : i < 256) : wrap64 ((k : Int) + 6) = (k : Int) + 6 ∧ IntKind.i64.wrap ((k : Int) + 6) = (k : Int) + 6 ∧ wrap64 ((i : Int) + 1) = (i : Int) + 1 ∧ IntKind.i64.wrap ((i : Int) + 1) = (i : Int) + 1 := by
  simp only [IntKind.wrap_i64]
  refine ⟨?_, ?_, ?_, ?_⟩ <;> first | omega | (unfold wrap64; omega)
theorem path_facts {at_ C : Nat} (h1 : at_ < 140737488355328) (h2 : C < 256) : IntKind.i64.wrap (C : Int) = (C : Int) ∧ wrap64 (C : Int) = (C : Int) ∧ IntKind.i64.wrap ((at_ : Int) + 1) = (at_ : Int) + 1 ∧ wrap64 ((at_ : Int) + 1) = (at_ : Int) + 1 ∧ IntKind.i64.wrap (6 * (C : Int)) = 6 * (C : Int) ∧ wrap64 (6 * (C : Int)) = 6 * (C : Int) ∧
    IntKind.i64.wrap ((at_ : Int) + 1 + 6 * (C : Int)) = (at_ : Int) + 1 + 6 * (C : Int) ∧ wrap64 ((at_ : Int) + 1 + 6 * (C : Int)) = (at_ : Int) + 1 + 6 * (C : Int) := by
  simp only [IntKind.wrap_i64]
  refine ⟨?_, ?_, ?_, ?_, ?_, ?_, ?_, ?_⟩ <;> first | omega | (unfold wrap64; omega)
theorem cellC {w W : World} {b o at_ : Nat} {xs : List Nat} (hr : Rd w b o xs) (hb : Below w.heap.size w W) (h : at_ < xs.length) : W.cell? ⟨b, o + at_, none⟩ = some (.int .u8 ((xs.getD at_ 0 : Nat) : Int)) := ((hr.below hb) (by omega)).2 at_ h
theorem pathR_snoc (xs : List Nat) : ∀ (i k : Nat), pathR xs k (i + 1) = pathR xs k i ++ [w64 (unum ((xs.drop (k + 6 * i)).take 6))]
  | 0, k => by simp [pathR]
  | i + 1, k => by
    show w64 _ :: pathR xs (k + 6) (i + 1) = (w64 _ :: pathR xs (k + 6) i) ++ _
    rw [pathR_snoc xs i (k + 6), show k + 6 + 6 * i = k + 6 * (i + 1) by omega]
    rfl
theorem six_in {xs : List Nat} (hx : Crc.Bytes xs) (k : Nat) : In64 (w64 (unum ((xs.drop k).take 6))) := by
  have h := unum_small (Crc.bytes_take (Crc.bytes_drop hx k) 6) (by rw [List.length_take]; omega)
  rw [w64_low (by omega)]
  exact ⟨by omega, by omega⟩
theorem DR.oth {w W W' : World} {g : Nat} {N p : List Int} {v : Value} (h : DR w g N p v W) (ho : OthI W W') (hb : Below w.heap.size W W') : DR w g N p v W' :=
  ⟨ho _ _ _ _ h.box (by decide), h.len, ho _ _ _ _ h.zero (by decide), h.bel.trans hb, h.gt⟩
theorem DR.path {w W : World} {g : Nat} {N p p' : List Int} {v v' : Value} (h : DR w g N p v W) : DR w g N p' v' (W.setCell ⟨g, 15, none⟩ v') :=
  ⟨heap_setCell_same W g 15 _ _ v' h.box, h.len, (heap_setCell_other W ⟨g, 15, none⟩ _ _ (by have := h.gt; simp; omega)).trans h.zero, h.bel.setCell (p := ⟨g, 15, none⟩) (Nat.le_of_lt h.gt) _, h.gt⟩
def PRelR (w : World) (g : Nat) (xs : List Nat) (N : List Int) (k0 C : Nat) (kv iv : Value) (wr : World) : Prop :=
  ∃ (i : Nat) (pv : Option Addr) (nv cv : Nat), i ≤ C ∧ iv = .int .i64 (i : Int) ∧ kv = .int .i64 ((k0 + 6 * i : Nat) : Int) ∧ DR w g N (pathR xs k0 i) (.slice pv nv cv) wr ∧ OwnI w.heap.size wr (.slice pv nv cv) (pathR xs k0 i)

end Go.Proofs.Ytcdcklkbjfhhnaa
