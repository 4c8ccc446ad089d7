/- Between clocks that run evenly: the states that follow. -/
import Derived.Test.YtnfoimkiihfalaaPeFind
import Derived.Test.YtnfoimkiihfalaaLow
namespace Go.Proofs.Ytnfoimkiihfalaa
open Go.RowKit Go.Joins

section
variable {r gap dl h st : Int}
def mkF (r gap dl h st : Int) (j : Nat) : Int × Int := (tl r (1000 + (j : Int) * gap + dl + h) + st * 65536, (1000 + (j : Int) * gap + 2 * dl + h) * 65536)
def marksF (r gap dl h st : Int) (k : Nat) : List (Int × Int) := (List.range' (k - 5) (min k 5)).map (mkF r gap dl h st)
theorem marks_len (k : Nat) : (marksF r gap dl h st k).length = min k 5 := by unfold marksF; rw [List.length_map, List.length_range']
theorem marks_drop (k : Nat) : (marksF r gap dl h st k).drop ((marksF r gap dl h st k).length - 4) = (List.range' (k - 4) (min k 4)).map (mkF r gap dl h st) := by
  rw [marks_len]
  unfold marksF
  rw [← List.map_drop]
  congr 1
  apply List.ext_getElem?
  intro i
  rw [List.getElem?_drop]
  by_cases hi : i < min k 4
  · rw [List.getElem?_range' (by omega), List.getElem?_range' hi]
    congr 1
    omega
  · rw [List.getElem?_eq_none (by rw [List.length_range']; omega), List.getElem?_eq_none (by rw [List.length_range']; omega)]
theorem marks_next (k : Nat) : (List.range' (k - 4) (min k 4)).map (mkF r gap dl h st) ++ [mkF r gap dl h st k] = marksF r gap dl h st (k + 1) := by
  unfold marksF
  rw [show k + 1 - 5 = k - 4 by omega, show min (k + 1) 5 = min k 4 + 1 by omega, List.range'_1_concat, List.map_append]
  rw [show k - 4 + min k 4 = k by omega]
  rfl
/-- After k talks. -/
structure FindS (r gap dl h st : Int) (k : Nat) (s : PS) : Prop where
  own : Own5 s 3
  seq : s.seq = k
  failed : s.failed = 0
  stage : s.stage = 0
  ms : s.ms = marksF r gap dl h st k
  good : 2 ≤ k → s.rate ≤ r + 336 ∧ r ≤ s.rate + 336 ∧ s.delay - dl * 65536 ≤ 2 ∧ -2 ≤ s.delay - dl * 65536
theorem find_talk {w : World} {b k : Nat} {s : PS} (hp : Pr w b s) (hs : FindS r gap dl h st k s) (hk : k ≤ 16) (hr : Near1 r) (d0 : 0 ≤ dl) (d1 : dl ≤ 4095) (h0 : 0 ≤ h) (h1 : h ≤ 65535) (g0 : 100000 ≤ gap) (g1 : gap ≤ 1148575) (s0 : 0 ≤ st) (s1 : st ≤ 16777215) {N : Int} (hN : 1000 + (k : Int) * gap = N) :
    Calls Try.prog 24 #[.pointer (some ⟨b, 0, none⟩), .agg #[.int .i64 (N * 65536), .int .i64 (tl r (N + dl) + st * 65536), .int .i64 (tl r (N + dl + h) + st * 65536), .int .i64 ((N + 2 * dl + h) * 65536)]] w fun e w' => e = .returned (.int .i64 0) ∧ ∃ s', FindS r gap dl h st (k + 1) s' ∧ Leave b w s' w' := by
  have hkg : (k : Int) * gap ≤ 16 * 1148575 := Int.mul_le_mul (by omega) g1 (by omega) (by omega)
  have hkg0 : 0 ≤ (k : Int) * gap := Int.mul_nonneg (by omega) (by omega)
  have l2 := tl_le (r := r) (ns := N + dl + h) hr (by omega) (by omega)
  have l3 := tl_le (r := r) (ns := N + dl) hr (by omega) (by omega)
  have hask : s.ask.ms = s.ms ∧ s.ask.failed = 0 := by
    unfold PS.ask
    rw [if_pos hs.stage]
    exact ⟨rfl, hs.failed⟩
  have i1 : In64 (tl r (N + dl) + st * 65536) := ⟨by omega, by omega⟩
  have i2 : In64 (tl r (N + dl + h) + st * 65536) := ⟨by omega, by omega⟩
  have hmk : ((tl r (N + dl + h) + st * 65536, (N + 2 * dl + h) * 65536) : Int × Int) = mkF r gap dl h st k := by unfold mkF; rw [hN]
  have hf := hs.failed
  have hq := hs.seq
  rcases Nat.eq_zero_or_pos k with e | e
  · subst e
    have hm : s.ask.ms = [] := by rw [hask.1, hs.ms]; rfl
    refine (talk_first hp hs.own (N * 65536) _ _ ((N + 2 * dl + h) * 65536) hm (by omega) (by omega) (by omega) (by omega) i1 i2).mono fun e w' hh => ⟨hh.1, _, ⟨own5_after1 hs.own _ _ _ _, ?_, rfl, rfl, ?_, fun hk => by omega⟩, hh.2⟩
    · show s.ask.seq = _
      rw [(ask_same s).1, hq]
      rfl
    · show [_] = marksF r gap dl h st 1
      rw [hmk]
      rfl
  · obtain ⟨m, hm⟩ : ∃ m : Nat, k = k - 4 + m ∧ 1 ≤ m ∧ m ≤ 4 := ⟨min k 4, by omega, by omega, by omega⟩
    have hg : ((k : Nat) : Int) * gap = ((k - 4 : Nat) : Int) * gap + (m : Int) * gap := by
      rw [← Int.add_mul]
      congr 1
      omega
    have hmg : 100000 ≤ (m : Int) * gap ∧ (m : Int) * gap ≤ 4594300 := by
      obtain ⟨_, m0, m1⟩ := hm
      have : m = 1 ∨ m = 2 ∨ m = 3 ∨ m = 4 := by omega
      rcases this with rfl | rfl | rfl | rfl <;> omega
    have hN0 : 0 ≤ ((k - 4 : Nat) : Int) * gap := Int.mul_nonneg (by omega) (by omega)
    obtain ⟨R, I, V, B, hR, k1, k2, b1, b2⟩ := finds_reck (r := r) (dl := dl) (h := h) (g := (m : Int) * gap) (N := N) (st := st) hr d0 d1 h0 h1 hmg.1 hmg.2 (by omega) (by omega) s0 s1
    obtain ⟨f1, f2, f3, f4, f5⟩ := half_near d0 d1 b1 b2
    have hfirst : ((marksF r gap dl h st k).drop ((marksF r gap dl h st k).length - 4))[0]? = some (tl r (N - (m : Int) * gap + dl + h) + st * 65536, (N - (m : Int) * gap + 2 * dl + h) * 65536) := by
      rw [marks_drop, List.getElem?_map, List.getElem?_range' (by omega)]
      show some (mkF r gap dl h st _) = _
      unfold mkF
      rw [show k - 4 + 1 * 0 = k - 4 by omega, show N - (m : Int) * gap = 1000 + ((k - 4 : Nat) : Int) * gap by omega]
    have l1 := tl_le (r := r) (ns := N - (m : Int) * gap + dl + h) hr (by omega) (by omega)
    refine (talk_more (D := max 0 (B.tdiv 2)) hp hs.own (marksF r gap dl h st k) (by rw [hask.1, hs.ms]) hR (by rw [marks_len]; omega) hfirst (by omega) (by omega) (by omega) (by omega) ⟨by omega, by omega⟩ ⟨by omega, by omega⟩ ⟨by omega, by omega⟩ i1 i2 ⟨by omega, by omega⟩ rfl f1 f2 f3).mono fun e w' hh => ⟨hh.1, _, ⟨own5_afterN hs.own _ _ _ _ _ _ _, ?_, rfl, rfl, ?_, fun _ => ⟨k1, k2, f4, f5⟩⟩, hh.2⟩
    · show s.ask.seq = _
      rw [(ask_same s).1, hq]
      omega
    · show _ ++ [_] = marksF r gap dl h st (k + 1)
      rw [hmk, marks_drop, marks_next]
end
theorem there_any {W : World} {rb sb : Nat} {r st ns : Int} (hr : Near1 r) (h0 : 0 ≤ ns) (h1 : ns ≤ 30000000) (s0 : 0 ≤ st) (s1 : st ≤ 16777215) (c1 : W.cell? ⟨rb, 0, none⟩ = some (.int .i64 r)) (c2 : W.cell? ⟨sb, 0, none⟩ = some (.int .i64 st)) :
    Calls Try.prog 22 #[.int .i64 ns, .pointer (some ⟨rb, 0, none⟩), .pointer (some ⟨sb, 0, none⟩)] W fun e w' => e = .returned (.int .i64 (tl r ns + st * 65536)) ∧ Below W.heap.size W w' := by
  have ht := tl_near hr h0 h1
  have hl := tl_le hr h0 h1
  have HB := by_ret (s := ns * 65536) (r := r) ⟨by omega, by omega⟩ ⟨by have := hr.1; omega, by have := hr.2; omega⟩
  rw [ht.1] at HB
  change Ret _ _ (.tuple #[.int .i64 (tl r ns), .int .i64 0]) at HB
  have w1 : wrap64 (ns * 65536) = ns * 65536 := by unfold wrap64; omega
  have w2 : wrap64 (st * 65536) = st * 65536 := by unfold wrap64; omega
  have w3 : wrap64 (tl r ns + st * 65536) = tl r ns + st * 65536 := by unfold wrap64; omega
  have HH := Lib.hid HB
  generalize tl r ns = T at *
  have k2 := block_lt_cell c2
  clear hr h0 h1 s0 s1 ht hl HB
  go_enter Try.func22, Try.ntmps22
  go_wp2_with (go_at_call 23; (with_reducible refine (HH.out.go _).mono ?_); rintro e w1 ⟨rfl, hb⟩; have c3 := (hb.cell (p := ⟨sb, 0, none⟩) k2).trans c2; have HB1 := Lib.hid hb; clear hb)
  go_ret
  exact ⟨by show Ending.returned (.int .i64 (wrap64 (T + st * 65536))) = _; rw [w3], HB1.out⟩

end Go.Proofs.Ytnfoimkiihfalaa
