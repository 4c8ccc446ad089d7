/- Package lanes: Head. -/
import Derived.Test.YtllmfkodgalklaaPoLnPutOk
import Derived.Laws.ResultCell
namespace Go.Proofs.Ytllmfkodgalklaa
open Go.RowKit Go.Joins

theorem bodyHead {R : Ending → World → Prop} {a : Act} {w : World} {g : Nat} {x : Value} {c0 c1 c2 : Value} {fr : Nat × Nat} (hp : a.tmps.getD 4 undef = .pointer (some ⟨g, 0, none⟩)) (hx : a.tmps.getD 5 undef = x) (hg : w.heap[g]? = some (.cells #[c0, c1, c2] 35 fr)) (hd : a.defers = [])
    (hR : R (.returned (.tuple #[.agg #[c0, c1, c2], x])) w) : bodyPost Try.prog Try.f47 R .ret a w := by
  refine bodyPost_ret (v := .tuple #[.agg #[c0, c1, c2], x]) ?_ hd hR
  have h := run_loadVar_row w g 35 35 #[c0, c1, c2] fr _ hg Try.underlying35 rfl (by kernel_rfl)
  rw [results_cell_tmp Try.results47, hp, hx]
  simp only [asAddr, Sem.run_pure, Result.andThen_ok, h]
def it0 : It := (0, 0, false)
theorem hd_plain (v : Value) (c : Int) (w : World) (HL : ∀ W, Below w.heap.size w W → Calls Try.prog 24 #[v, .int .i64 c] W fun e w' => e = .returned (.int .i64 0) ∧ w' = W) :
    Calls Try.prog 47 #[v, .int .i64 c] w fun e w' => e = .returned (.tuple #[itv it0, .bool false]) ∧ Below w.heap.size w w' := by
  have HL' := Lib.hid HL
  clear HL
  go_enter Try.func47, Try.ntmps47
  go_wp2_with (go_at_call 24; (with_reducible refine (HL'.out _ (bAl (bRef w) _)).mono ?_); rintro e w1 ⟨rfl, rfl⟩)
  refine bodyHead rfl rfl (heap_alloc_one' _ _) rfl ⟨rfl, bAl (bRef w) _⟩
theorem hd_nil (c : Int) (w : World) : Calls Try.prog 47 #[.pointer none, .int .i64 c] w fun e w' => e = .returned (.tuple #[itv it0, .bool false]) ∧ Below w.heap.size w w' :=
  hd_plain _ c w (fun W _ => len_nil c W)
theorem hd_port (b : Nat) (c : Int) (h : c < 0 ∨ 8 ≤ c) (w : World) : Calls Try.prog 47 #[.pointer (some ⟨b, 0, none⟩), .int .i64 c] w fun e w' => e = .returned (.tuple #[itv it0, .bool false]) ∧ Below w.heap.size w w' :=
  hd_plain _ c w (fun W _ => len_no b c h W)
section
variable {w : World} {b : Nat} {F : Nat → Prop} {s : LS}
theorem hd_none (h : Ln w b F s) (c : Nat) (hc : c < 8) (he : s.q c = []) : Calls Try.prog 47 #[.pointer (some ⟨b, 0, none⟩), .int .i64 (c : Int)] w fun e w' => e = .returned (.tuple #[itv it0, .bool false]) ∧ Below w.heap.size w w' :=
  hd_plain _ _ w (fun W hW => by
    have k := len_yes (h.below hW) c hc
    rw [he] at k
    exact k)
theorem hd_some (h : Ln w b F s) (c : Nat) (hc : c < 8) {x : It} {L : List It} (he : s.q c = x :: L) (hn : L.length < 100000) : Calls Try.prog 47 #[.pointer (some ⟨b, 0, none⟩), .int .i64 (c : Int)] w fun e w' => e = .returned (.tuple #[itv x, .bool true]) ∧ Below w.heap.size w w' := by
  have HL : Hid (∀ o, Calls Try.prog 24 #[.pointer (some ⟨b, 0, none⟩), .int .i64 (c : Int)] (w.alloc o) fun e w' => e = .returned (.int .i64 ((L.length : Int) + 1)) ∧ w' = w.alloc o) := Lib.hid (fun o => by
    have k := len_yes (h.alloc o) c hc
    rw [he] at k
    exact k)
  obtain ⟨sl, h⟩ := h
  have h1 := h.below (bAl (bRef w) (.cells #[.int .i64 0, .int .i64 0, .bool false] 35))
  have hq := h1.q c hc
  rw [he] at hq
  obtain ⟨g, o, cap, e1, a0, a1, a2, hcap, hmax, _⟩ := hq.first
  have k := h1.cq hc
  rw [e1] at k
  have d : ((L.length : Int) + 1 == 0) = false := by rw [beq_eq_false_iff_ne]; omega
  have i1 : (0 : Int) ≤ (c : Int) := by omega
  have i2 : (c : Int) < 8 := by omega
  have i3 : (0 : Int) < (L.length : Int) + 1 := by omega
  obtain ⟨x0, x1, x2⟩ := x
  unfold itv
  dsimp only at *
  generalize L.length = n at *
  have e2 : (((n + 1 : Nat) : Nat) : Int) = (n : Int) + 1 := by omega
  clear h h1 he hq e1 hmax hcap hc
  go_enter Try.func47, Try.ntmps47
  go_wp2_with (go_at_call 24; (with_reducible refine (HL.out _).mono ?_); rintro e w1 ⟨rfl, rfl⟩)
  refine bodyHead rfl rfl (heap_alloc_one' _ _) rfl ⟨rfl, bAl (bRef w) _⟩
end

end Go.Proofs.Ytllmfkodgalklaa
