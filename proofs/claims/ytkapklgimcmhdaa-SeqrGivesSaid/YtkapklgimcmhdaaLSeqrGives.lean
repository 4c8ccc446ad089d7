/- For every number SeqrGives answers true: numbers are given away in order, each once till all were. No condition. -/
import Derived.Test.YtkapklgimcmhdaaFSeqrGives
import Derived.Test.YtkapklgimcmhdaaSqHead
namespace Go.Proofs.Ytkapklgimcmhdaa
open Go.RowKit Go.Joins

theorem Gn.lt {w : World} {b : Nat} {x : Int} (h : Gn w b x) : b < w.heap.size := lt_of_heap h
def GivRel (w : World) (n : Int) (b : Nat) (xv iv : Value) (wr : World) : Prop :=
  ∃ k : Nat, iv = .int .i64 (k : Int) ∧ 3 ≤ k ∧ ((k : Int) ≤ n + 1 ∨ k = 3) ∧ xv = .int .i64 (if k = 3 then 0 else ((k : Int) - 1) % 65536) ∧ Gn wr b ((k : Int) % 65536) ∧ Below w.heap.size w wr
set_option maxHeartbeats 4000000 in
theorem gives_walk (n0 : Int) (w : World) : Calls Try.prog 6 #[.int .i64 n0] w fun e w' => e = .returned (.bool true) ∧ Below w.heap.size w w' := by
  have e1 := low17 n0
  obtain ⟨n, hn⟩ : ∃ n : Int, n0 % 131072 = n := ⟨_, rfl⟩
  have hn0 : 0 ≤ n ∧ n < 131072 := by omega
  rw [hn] at e1
  clear hn
  have Hn := Lib.hid hn0
  clear hn0
  go_enter Try.func6, Try.ntmps6
  go_wp2_with fail
  have h1 : Gn (w.alloc (.cells #[.int .i64 0] 55)) w.heap.size 0 := heap_alloc_one' _ _
  have HG := Lib.hid h1
  clear h1
  go_loopw [4] (fun kv wr => ∃ k : Nat, kv = .int .i64 (k : Int) ∧ k ≤ 3 ∧ Gn wr w.heap.size (k : Int) ∧ Below w.heap.size w wr) (fun kv _ => 3 - (intOf kv).toNat)
  case atStart => exact ⟨0, rfl, by omega, HG.out, bAl (bRef w) _⟩
  case round =>
    obtain ⟨k, rfl, hk, hg, hb⟩ := hrel
    have HGk := Lib.hid hg
    have HB := Lib.hid hb
    clear hg hb HG
    rcases Nat.lt_or_ge k 3 with g | g
    · have hd : decide ((k : Int) < 3) = true := decide_eq_true (by omega)
      have he : ((k : Int) != (k : Int)) = false := by simp
      have HX := Lib.hid (next_any HGk.out (by omega) (by omega))
      have HE : Hid (((k : Int) + 1) % 65536 = ((k + 1 : Nat) : Int)) := Lib.hid (by omega)
      go_wp2_with (go_at_call 26; (with_reducible refine HX.out.mono ?_); rintro e w2 ⟨rfl, hm, hb⟩; have HM2 := Lib.hid hm; have HB2 := Lib.hid hb; clear hm hb)
      go_roundw
      case rel => exact ⟨k + 1, by go_num, by omega, by rw [← HE.out]; exact HM2.out, HB.out.trans (HB2.out.below (Nat.le_refl _) HGk.out.lt)⟩
      case measure => simp [intOf]; omega
    · obtain rfl : k = 3 := by omega
      rw [show ((3 : Nat) : Int) = 3 from rfl]
      go_wp2_with fail
      go_loopw [5, 6] (fun xv iv wr => GivRel w n w.heap.size xv iv wr) (fun _ iv _ => (n + 1).toNat - (intOf iv).toNat)
      case atStart => exact ⟨3, rfl, by omega, .inr rfl, by simp, HGk.out, HB.out⟩
      case round =>
        obtain ⟨k, rfl, hk3, hk, rfl, hg, hb⟩ := hrel
        have HGk := Lib.hid hg
        have HB := Lib.hid hb
        obtain ⟨n1, n2⟩ := Hn.out
        clear hg hb
        by_cases g : (k : Int) ≤ n
        · have hd : decide ((k : Int) ≤ n) = true := decide_eq_true g
          have HX := Lib.hid (next_any HGk.out (by omega) (by omega))
          have HE : Hid (((k : Int) % 65536 + 1) % 65536 = ((k + 1 : Nat) : Int) % 65536) := Lib.hid (by omega)
          have HF : Hid ((k : Int) % 65536 = if k + 1 = 3 then 0 else (((k + 1 : Nat) : Int) - 1) % 65536) := Lib.hid (by rw [if_neg (by omega)]; congr 1; omega)
          generalize (if k = 3 then (0 : Int) else ((k : Int) - 1) % 65536) = X
          obtain ⟨Y, hY⟩ : ∃ Y, (k : Int) % 65536 = Y := ⟨_, rfl⟩
          rw [hY] at HX HE HF
          have HYY := Lib.hid hY
          clear hY
          go_wp2_with (go_at_call 26; (with_reducible refine HX.out.mono ?_); rintro e w2 ⟨rfl, hm, hb⟩; have HM2 := Lib.hid hm; have HB2 := Lib.hid hb; clear hm hb)
          go_roundw
          case rel => exact ⟨k + 1, by go_num, by omega, .inl (by omega), by rw [HF.out], by rw [← HE.out]; exact HM2.out, HB.out.trans (HB2.out.below (Nat.le_refl _) HGk.out.lt)⟩
          case measure => simp [intOf]; omega
        · have hd : decide ((k : Int) ≤ n) = false := decide_eq_false g
          have HX := Lib.hid (fun W => next_nil W)
          by_cases hn3 : n < 3
          · have d3 : decide (n < 3) = true := decide_eq_true hn3
            generalize (if k = 3 then (0 : Int) else ((k : Int) - 1) % 65536) = X
            go_wp2_with (go_at_call 26; (with_reducible refine (HX.out _).mono ?_); rintro e w2 ⟨rfl, rfl⟩)
            go_ret
            exact ⟨rfl, HB.out⟩
          · have d3 : decide (n < 3) = false := decide_eq_false hn3
            have e4 : (if k = 3 then (0 : Int) else ((k : Int) - 1) % 65536) = n % 65536 := by rw [if_neg (by omega)]; congr 1; omega
            have e5 : n.tmod 65536 = n % 65536 := Int.tmod_eq_emod_of_nonneg (by omega)
            rw [e4]
            go_wp2_with (go_at_call 26; (with_reducible refine (HX.out _).mono ?_); rintro e w2 ⟨rfl, rfl⟩)
            go_ret
            exact ⟨rfl, HB.out⟩

theorem seqrGives_holds : Rows.SeqrGivesSaid := seqrGives_of (fun n w _ => gives_walk n w)

end Go.Proofs.Ytkapklgimcmhdaa
