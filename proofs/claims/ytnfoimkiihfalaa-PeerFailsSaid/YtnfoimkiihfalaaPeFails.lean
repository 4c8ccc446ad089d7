/- Answers that fail in a row: the states that follow. -/
import Derived.Test.YtnfoimkiihfalaaPeHead
import Derived.Test.YtnfoimkiihfalaaLow
namespace Go.Proofs.Ytnfoimkiihfalaa
open Go.RowKit Go.Joins

theorem low3 (n : Int) : bits .and .i64 n 7 = n % 8 := and_low n 3 (by omega)
theorem low4 (n : Int) : bits .and .i64 n 15 = n % 16 := and_low n 4 (by omega)
def M2 : List (Int × Int) := [(393216000, 157286400), (1048576000, 812646400)]
/-- After i questions without answers. -/
structure FS (L : Int) (i : Nat) (s : PS) : Prop where
  own : Own5 s L
  seq : s.seq = 2 + i
  st0 : i = 0 → s.stage = 0 ∧ s.failed = 0
  st1 : 0 < i → s.stage = 1 ∧ s.failed = (i : Int) - 1
  few : (i : Int) - 1 < L → s.ms = M2 ∧ s.delay = 13107200
  all : L ≤ (i : Int) - 1 → s.ms = [] ∧ s.delay = 0
theorem FS.step {L : Int} {i : Nat} {s : PS} (h : FS L i s) (hL : 1 ≤ L) (hi : i < 1000) : FS L (i + 1) s.ask := by
  have hq : s.ask.seq = 2 + ((i + 1 : Nat) : Int) := by
    rw [(ask_same s).1, h.seq]; omega
  refine ⟨h.own.same (ask_Same s), hq, fun e => by omega, fun _ => ?_, fun hf => ?_, fun ha => ?_⟩
  · refine ⟨(ask_same s).2.1, ?_⟩
    rcases Nat.eq_zero_or_pos i with e | e
    · subst e
      obtain ⟨a, b⟩ := h.st0 rfl
      unfold PS.ask
      rw [if_pos a]
      show s.failed = _
      omega
    · obtain ⟨a, b⟩ := h.st1 e
      unfold PS.ask
      rw [if_neg (by omega)]
      show s.fail.failed = _
      unfold PS.fail
      split
      all_goals
        show s.failed + 1 = _
        omega
  · rcases Nat.eq_zero_or_pos i with e | e
    · subst e
      obtain ⟨a, b⟩ := h.st0 rfl
      have := h.few (by omega)
      unfold PS.ask
      rw [if_pos a]
      exact this
    · obtain ⟨a, b⟩ := h.st1 e
      have := h.few (by omega)
      unfold PS.ask
      rw [if_neg (by omega)]
      show s.fail.ms = _ ∧ s.fail.delay = _
      unfold PS.fail
      rw [if_neg (by rw [h.own.lost, b]; omega)]
      exact this
  · rcases Nat.eq_zero_or_pos i with e | e
    · omega
    · obtain ⟨a, b⟩ := h.st1 e
      unfold PS.ask
      rw [if_neg (by omega)]
      show s.fail.ms = _ ∧ s.fail.delay = _
      unfold PS.fail
      rw [if_pos (by rw [h.own.lost, b]; omega)]
      exact ⟨rfl, rfl⟩
theorem FS.failed {L : Int} {i : Nat} {s : PS} (h : FS L i s) : 0 ≤ s.failed ∧ s.failed ≤ i := by
  rcases Nat.eq_zero_or_pos i with e | e
  · have := h.st0 e; omega
  · have := h.st1 e; omega
def F1 (L : Int) : PS := after1 (PS0 L) 65536000 327680000 393216000 157286400
def F2 (L : Int) : PS := afterN (F1 L) 720896000 983040000 1048576000 812646400 [(393216000, 157286400)] 2199023255552 13107200
theorem fs_start (L : Int) (hL : 1 ≤ L) : FS L 0 (F2 L) := ⟨own5_afterN (own5_after1 (own5_new L) _ _ _ _) _ _ _ _ _ _ _, rfl, fun _ => ⟨rfl, rfl⟩, fun h => by omega, fun _ => ⟨rfl, rfl⟩, fun h => by omega⟩
theorem reck20 : Reck 393216000 157286400 13172736000 13434880000 13500416000 13264486400 2199023255552 2199023255552 65536000 26214400 :=
  ⟨⟨by decide, by decide⟩, ⟨by decide, by decide⟩, by decide +kernel, by decide +kernel, ⟨by decide, by decide⟩, ⟨by decide, by decide⟩, ⟨by decide, by decide⟩, by decide +kernel, by decide +kernel, ⟨by decide, by decide⟩, by decide +kernel, by decide +kernel, ⟨by decide, by decide⟩, ⟨by decide, by decide⟩, by decide⟩
/-- The last talk, behind them. -/
theorem talk20 {w : World} {b : Nat} {L : Int} {i : Nat} {s : PS} (h : Pr w b s) (hs : FS L (i + 1) s) (hL : 1 ≤ L) (hi : i < 900) :
    Calls Try.prog 24 #[.pointer (some ⟨b, 0, none⟩), .agg #[.int .i64 13172736000, .int .i64 13434880000, .int .i64 13500416000, .int .i64 13264486400]] w fun e w' => e = .returned (.int .i64 0) ∧ ∃ s', Leave b w s' w' ∧ decide (2 ≤ s'.ms.length) = decide ((i : Int) + 1 < L) := by
  have hn := hs.step hL (by omega)
  have hf := hs.failed
  have hq := hs.seq
  by_cases hl : (i : Int) + 1 < L
  · obtain ⟨a, _⟩ := hn.few (by omega)
    refine (talk_more (D := 13107200) h hs.own M2 a reck20 (by decide) rfl (by omega) (by omega) (by omega) (by omega) ⟨by decide, by decide⟩ ⟨by decide, by decide⟩ ⟨by decide, by decide⟩ ⟨by decide, by decide⟩ ⟨by decide, by decide⟩ ⟨by decide, by decide⟩ (by decide) (by decide) (by decide) ⟨by decide, by decide⟩).mono fun e w' hh => ⟨hh.1, _, hh.2, ?_⟩
    rw [decide_eq_true hl]
    rfl
  · obtain ⟨a, _⟩ := hn.all (by omega)
    refine (talk_first h hs.own _ _ _ _ a (by omega) (by omega) (by omega) (by omega) ⟨by decide, by decide⟩ ⟨by decide, by decide⟩).mono fun e w' hh => ⟨hh.1, _, hh.2, ?_⟩
    rw [decide_eq_false hl]
    rfl
theorem at_fails (k : Int) (t : Int) (hk : 0 ≤ k) (hk2 : k ≤ 100) (ht : 655360000 * k = t) (w : World) : Calls Try.prog 27 #[.int .i64 k] w fun e w' => e = .returned (.agg #[.int .i64 (t + 65536000), .int .i64 (t + 327680000), .int .i64 (t + 393216000), .int .i64 (t + 157286400)]) ∧ Below w.heap.size w w' := by
  have h1 : wrap64 (10000 * k) = 10000 * k := by unfold wrap64; omega
  have h2 : wrap64 (10000 * k * 65536) = t := by unfold wrap64; omega
  have h3 : wrap64 (t + 65536000) = t + 65536000 := by unfold wrap64; omega
  have h4 : wrap64 (t + 327680000) = t + 327680000 := by unfold wrap64; omega
  have h5 : wrap64 (t + 393216000) = t + 393216000 := by unfold wrap64; omega
  have h6 : wrap64 (t + 157286400) = t + 157286400 := by unfold wrap64; omega
  clear hk hk2 ht
  go_enter Try.func27, Try.ntmps27
  go_wp2_with fail
  exact bodyPost_ret (v := .agg #[.int .i64 (t + 65536000), .int .i64 (t + 327680000), .int .i64 (t + 393216000), .int .i64 (t + 157286400)]) (by simp [results, Try.results27, go_sem]) rfl ⟨rfl, bAl (bRef w) _⟩

end Go.Proofs.Ytnfoimkiihfalaa
