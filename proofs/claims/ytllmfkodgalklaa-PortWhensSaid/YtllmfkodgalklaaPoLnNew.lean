/- Package lanes: New. -/
import Derived.Test.YtllmfkodgalklaaPoLnOps
namespace Go.Proofs.Ytllmfkodgalklaa
open Go.RowKit Go.Joins

theorem heap_alloc_two' (w : World) (p o : Obj) : ((w.alloc p).alloc o).heap[w.heap.size + 1]? = some o := by
  have h := heap_alloc_one' (w.alloc p) o
  rwa [show (w.alloc p).heap.size = w.heap.size + 1 by simp] at h
def okR (r : Nat → Int) (k : Nat) : Prop := ∀ i, i < k → 0 ≤ r i ∧ r i ≤ 4096
def LS.new (r : Nat → Int) : LS := { r := r, q := fun _ => [], lost := fun _ => 0 }
def NwRel (w : World) (r : Nat → Int) (kv : Value) (wr : World) : Prop := ∃ k : Nat, kv = .int .i64 (k : Int) ∧ k ≤ 8 ∧ okR r k ∧ wr = w.alloc (o8 r)
theorem new_box (r : Nat → Int) {w : World} {b : Nat} (h : w.heap[b]? = some (.cells (lrow (LS.new r) (fun _ => .slice none 0 0)) 82)) : Ln w b (fun k => k = b) (LS.new r) :=
  ⟨fun _ => .slice none 0 0, ⟨h, fun _ _ => .inl ⟨rfl, rfl⟩, fun _ _ _ _ _ _ h => by (cases h), rfl, fun k hk => Nat.lt_of_le_of_lt (Nat.le_of_eq hk) (lt_of_heap h)⟩⟩
set_option maxHeartbeats 1000000 in
theorem new_any (r : Nat → Int) (w : World) : Calls Try.prog 18 #[a8 r] w fun e w' => (okR r 8 → ∃ b, e = .returned (.tuple #[.pointer (some ⟨b, 0, none⟩), .int .i64 0]) ∧ w.heap.size ≤ b ∧ Ln w' b (fun k => k = b) (LS.new r)) ∧ (¬ okR r 8 → e = .returned (.tuple #[.pointer none, .int .i64 1])) ∧ Below w.heap.size w w' := by
  have HI := Lib.hid (fun k (hk : k < 8) W => a8_index r k hk W)
  go_enter Try.func18, Try.ntmps18
  unfold a8
  go_wp2_with fail
  go_loopw [7] (fun kv wr => NwRel w r kv wr) (fun kv _ => 8 - (intOf kv).toNat)
  case atStart => exact ⟨0, rfl, by omega, fun i hi => by omega, rfl⟩
  case round =>
    obtain ⟨k, rfl, hk, hok, rfl⟩ := hrel
    have HOK := Lib.hid hok
    rcases Nat.lt_or_ge k 8 with g1 | g1
    · have hd : decide ((k : Int) < 8) = true := decide_eq_true (by omega)
      have hi := HI.out k g1
      obtain ⟨X, hX⟩ : ∃ X, r k = X := ⟨_, rfl⟩
      rw [hX] at hi
      unfold a8 at hi
      by_cases h1 : X < 0
      · have d1 : decide (X < 0) = true := decide_eq_true h1
        have HN : Hid (¬ okR r 8) := Lib.hid (fun h => by have := h k g1; omega)
        clear h1 hX hok
        go_wp2_with fail
        go_ret2
        exact ⟨fun h => absurd h HN.out, fun _ => rfl, bAl (bRef w) _⟩
      · have d1 : decide (X < 0) = false := decide_eq_false h1
        by_cases h2 : 4096 < X
        · have d2 : decide (4096 < X) = true := decide_eq_true h2
          have HN : Hid (¬ okR r 8) := Lib.hid (fun h => by have := h k g1; omega)
          clear h1 h2 hX hok
          go_wp2_with fail
          go_ret2
          exact ⟨fun h => absurd h HN.out, fun _ => rfl, bAl (bRef w) _⟩
        · have d2 : decide (4096 < X) = false := decide_eq_false h2
          have HN : Hid (okR r (k + 1)) := Lib.hid (fun i hi => by
            rcases Nat.lt_or_ge i k with g | g
            · exact hok i g
            · obtain rfl : i = k := by omega
              omega)
          clear h1 h2 hX hok
          go_wp2_with fail
          go_roundw
          case rel => exact ⟨k + 1, by go_num, by omega, HN.out, rfl⟩
          case measure => simp [intOf]; omega
    · have HOK8 : Hid (okR r 8) := Lib.hid (fun i hi => hok i (by omega))
      have hd : decide ((k : Int) < 8) = false := decide_eq_false (by omega)
      clear hok
      unfold o8
      go_wp2_with fail
      go_ret2
      refine ⟨fun _ => ⟨_, rfl, ?_, new_box r (heap_alloc_two' _ _ _)⟩, fun h => absurd HOK8.out h, bAl (bAl (bRef w) _) _⟩
      simp

end Go.Proofs.Ytllmfkodgalklaa
