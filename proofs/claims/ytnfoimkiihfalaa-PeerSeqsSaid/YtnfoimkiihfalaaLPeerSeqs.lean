/- For all two ints PeerSeqs answers true: questions are numbered one behind the other, round and round; a link that is gone begins with the next number, and knows nothing. No condition. -/
import Derived.Test.YtnfoimkiihfalaaFPeerSeqs
import Derived.Test.YtnfoimkiihfalaaPeDown
import Derived.Test.YtnfoimkiihfalaaLow
namespace Go.Proofs.Ytnfoimkiihfalaa
open Go.RowKit Go.Joins

theorem low17 (n : Int) : bits .and .i64 n 131071 = n % 131072 := and_low n 17 (by omega)
/-- A peer that knows nothing. -/
structure Blank (k : Nat) (q : Int) (s : PS) : Prop where
  seq : s.seq = q
  q0 : 0 ≤ q
  q1 : q ≤ 65535
  f0 : 0 ≤ s.failed
  f1 : s.failed ≤ k
  ms : s.ms = []
theorem Blank.ask {k : Nat} {q : Int} {s : PS} (h : Blank k q s) : Blank (k + 1) ((q + 1) % 65536) s.ask := by
  obtain ⟨a, b, c, d, e, f⟩ := h
  refine ⟨by rw [(ask_same s).1, a], by omega, by omega, ?_, ?_, ?_⟩
  all_goals
    unfold PS.ask
    by_cases hs : s.stage = 0
    · rw [if_pos hs]
      first
        | exact f
        | exact d
        | (show s.failed ≤ _; omega)
    · rw [if_neg hs]
      first
        | (show s.fail.ms = []; unfold PS.fail; split <;> first | rfl | exact f)
        | (show 0 ≤ s.fail.failed; unfold PS.fail; split <;> (show 0 ≤ s.failed + 1; omega))
        | (show s.fail.failed ≤ _; unfold PS.fail; split <;> (show s.failed + 1 ≤ _; omega))
theorem Blank.down {k : Nat} {q : Int} {s : PS} (h : Blank k q s) : Blank k q s.down := ⟨h.seq, h.q0, h.q1, Int.le_refl _, by show (0 : Int) ≤ k; omega, rfl⟩
def SeqRel (w : World) (b n : Nat) (qv iv : Value) (wr : World) : Prop :=
  ∃ (k : Nat) (q : Int) (s : PS), iv = .int .i64 (k : Int) ∧ qv = .int .i64 q ∧ k ≤ n ∧ Blank k q s ∧ Pr wr b s ∧ Below w.heap.size w wr
set_option maxRecDepth 20000 in
set_option maxHeartbeats 4000000 in
theorem seqs_any (x0 x1 : Int) (w : World) : Calls Try.prog 7 #[.int .i64 x0, .int .i64 x1] w fun e w' => e = .returned (.bool true) ∧ Below w.heap.size w w' := by
  have HH := Lib.hid (fun W => head_ret W)
  have HCf := Lib.hid (fun W => conf_any W)
  have l3 := low17 x0
  have l4 := low17 x1
  obtain ⟨n, hn⟩ : ∃ n : Nat, x0 % 131072 = (n : Int) := ⟨(x0 % 131072).toNat, by omega⟩
  obtain ⟨d, hd⟩ : ∃ d : Int, x1 % 131072 = d := ⟨_, rfl⟩
  have hn16 : n < 131072 := by omega
  rw [hn] at l3
  rw [hd] at l4
  have HN := Lib.hid (fun W => new_ok 5 1 1099511627776 1048576 4 3 W (by decide))
  have HNN := Lib.hid hn16
  clear hd hn hn16
  go_enter Try.func7, Try.ntmps7
  go_wp2_with (first
    | (go_at_call 11; (with_reducible refine (HH.out _).mono ?_); rintro e w1 ⟨rfl, hb⟩; have HB1 := Lib.hid hb; clear hb)
    | (go_at_call 17; (with_reducible refine (HCf.out _).mono ?_); rintro e w2 ⟨rfl, hb⟩; have HB2 := Lib.hid (bTr HB1.out hb); clear hb)
    | (go_at_call 12; (with_reducible refine (HN.out _).mono ?_); rintro e w3 ⟨b, rfl, hlo, hp, hb⟩; have HP3 := Lib.hid hp; have HB3 := Lib.hid (bTr HB2.out hb); have HLW := Lib.hid (Nat.le_trans HB2.out.size hlo); clear hp hb hlo))
  go_loopw [7, 8] (fun qv iv wr => SeqRel w b n qv iv wr) (fun _ iv _ => n - (intOf iv).toNat)
  case atStart => exact ⟨0, 0, _, rfl, rfl, by omega, ⟨rfl, Int.le_refl _, by decide, Int.le_refl _, Int.le_refl _, rfl⟩, HP3.out, HB3.out⟩
  case round =>
    clear HP3 HB1 HB2 HB3 HN HCf HH l3 l4
    obtain ⟨k, q, s, rfl, rfl, hk, hs, hp, hb⟩ := hrel
    have hn16 := HNN.out
    have HP := Lib.hid hp
    have HB := Lib.hid hb
    clear hp hb
    rcases Nat.lt_or_ge k n with g1 | g1
    · have hd : decide ((k : Int) < (n : Int)) = true := decide_eq_true (by omega)
      have hwi : wrap64 ((k : Int) + 1) = (k : Int) + 1 := by unfold wrap64; omega
      have q0 := hs.q0
      have q1 := hs.q1
      have hwq : wrap64 (q + 1) = q + 1 := by unfold wrap64; omega
      obtain ⟨q', hq'⟩ : ∃ q', (q + 1) % 65536 = q' := ⟨_, rfl⟩
      have hm : (q + 1).tmod 65536 = q' := by rw [Int.tmod_eq_emod_of_nonneg (by omega), hq']
      have hwq2 : wrap64 q' = q' := by unfold wrap64; omega
      have HA : Hid (∀ (s : PS), Blank k q s → ∀ W, Pr W b s → Calls Try.prog 18 #[.pointer (some ⟨b, 0, none⟩)] W fun e w' => e = .returned (.tuple #[.agg #[.int .i64 2, .int .i64 0, .int .i64 q', .int .i64 s.id, .int .i64 s.port, .int .i64 0, .int .i64 0, .int .i64 0, .int .i64 0, .int .i64 0, .int .i64 0, .int .i64 0, .int .i64 0, .int .i64 0, .int .i64 0, .slice none 0 0], .bool true]) ∧ Leave b W s.ask w') := Lib.hid (fun s h W hW => by
        have key := ask_any hW (by rw [h.seq]; exact h.q0) (by rw [h.seq]; exact h.q1) h.f0 (by have := h.f1; omega)
        rw [h.seq, hq'] at key
        exact key)
      have HQ := Lib.hid hq'
      have HS := Lib.hid hs
      have HK := Lib.hid hk
      clear q0 q1 hq' hs hk
      by_cases hkd : (k : Int) = d
      · have hdd : ((k : Int) == d) = true := by rw [beq_iff_eq]; exact hkd
        have HDN := Lib.hid (down_any HP.out)
        clear hkd
        go_wp2_with (first
          | (go_at_call 28; (with_reducible refine HDN.out.mono ?_); rintro e w4 ⟨rfl, hp, hb⟩; have HP4 := Lib.hid hp; have HB4 := Lib.hid (hb.into HB.out HLW.out); clear hp hb)
          | (go_at_call 18; (with_reducible refine (HA.out _ HS.out.down _ HP4.out).mono ?_); rintro e w5 ⟨rfl, hp, hb⟩; have HP5 := Lib.hid (fun o => hp.alloc o); have HB5 := Lib.hid (fun o => bAl (hb.into HB4.out HLW.out) o); clear hp hb)
          | ((with_reducible refine at_storeM ?_); refine wpList_storeNM rfl _ _ rfl _ rfl #[.int .i64 2, .int .i64 0, .int .i64 q', .int .i64 s.down.id, .int .i64 s.down.port, .int .i64 0, .int .i64 0, .int .i64 0, .int .i64 0, .int .i64 0, .int .i64 0, .int .i64 0, .int .i64 0, .int .i64 0, .int .i64 0, .slice none 0 0] _ rfl rfl (by simp [Value.oneCell']) rfl rfl ?_))
        go_roundw
        case rel => exact ⟨k + 1, q', _, by go_num, rfl, by omega, by have := HS.out.down.ask; rw [HQ.out] at this; exact this, HP5.out _, HB5.out _⟩
        case measure => simp [intOf]; omega
      · have hdd : ((k : Int) == d) = false := by rw [beq_eq_false_iff_ne]; exact hkd
        clear hkd
        go_wp2_with (first
          | (go_at_call 18; (with_reducible refine (HA.out _ HS.out _ HP.out).mono ?_); rintro e w5 ⟨rfl, hp, hb⟩; have HP5 := Lib.hid (fun o => hp.alloc o); have HB5 := Lib.hid (fun o => bAl (hb.into HB.out HLW.out) o); clear hp hb)
          | ((with_reducible refine at_storeM ?_); refine wpList_storeNM rfl _ _ rfl _ rfl #[.int .i64 2, .int .i64 0, .int .i64 q', .int .i64 s.id, .int .i64 s.port, .int .i64 0, .int .i64 0, .int .i64 0, .int .i64 0, .int .i64 0, .int .i64 0, .int .i64 0, .int .i64 0, .int .i64 0, .int .i64 0, .slice none 0 0] _ rfl rfl (by simp [Value.oneCell']) rfl rfl ?_))
        go_roundw
        case rel => exact ⟨k + 1, q', _, by go_num, rfl, by omega, by have := HS.out.ask; rw [HQ.out] at this; exact this, HP5.out _, HB5.out _⟩
        case measure => simp [intOf]; omega
    · obtain rfl : k = n := by omega
      have hd : decide ((k : Int) < (k : Int)) = false := decide_eq_false (by omega)
      have HAb : Hid (∀ W, Pr W b s → Calls Try.prog 26 #[.pointer (some ⟨b, 0, none⟩)] W fun e w' => e = .returned (.bool false) ∧ w' = W) := Lib.hid (fun W h => by have key := able_any h; rw [hs.ms] at key; exact key)
      have HRt : Hid (∀ W, Pr W b s → Calls Try.prog 25 #[.pointer (some ⟨b, 0, none⟩)] W fun e w' => e = .returned (.int .i64 2199023255552) ∧ w' = W) := Lib.hid (fun W h => by have key := rate_any h; rw [hs.ms] at key; exact key)
      clear hs
      go_wp2_with (first
        | (go_at_call 26; (with_reducible refine (HAb.out _ HP.out).mono ?_); rintro e w4 ⟨rfl, rfl⟩)
        | (go_at_call 25; (with_reducible refine (HRt.out _ HP.out).mono ?_); rintro e w5 ⟨rfl, rfl⟩))
      go_ret
      exact ⟨rfl, HB.out⟩

theorem peerSeqs_holds : Rows.PeerSeqsSaid := peerSeqs_of (fun x0 x1 w _ _ => seqs_any x0 x1 w)

end Go.Proofs.Ytnfoimkiihfalaa
