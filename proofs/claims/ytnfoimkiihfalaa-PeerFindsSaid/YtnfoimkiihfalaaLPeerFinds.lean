/- For all six ints PeerFinds answers true: between two clocks that run evenly, over a link that takes as long both ways, the delay is found to a nanosecond, the rate to what was reckoned over. No condition. -/
import Derived.Test.YtnfoimkiihfalaaFPeerFinds
import Derived.Test.YtnfoimkiihfalaaPeFind2
namespace Go.Proofs.Ytnfoimkiihfalaa
open Go.RowKit Go.Joins

theorem low12 (n : Int) : bits .and .i64 n 4095 = n % 4096 := and_low n 12 (by omega)
theorem low16 (n : Int) : bits .and .i64 n 65535 = n % 65536 := and_low n 16 (by omega)
theorem low20 (n : Int) : bits .and .i64 n 1048575 = n % 1048576 := and_low n 20 (by omega)
theorem low8 (n : Int) : bits .and .i64 n 255 = n % 256 := and_low n 8 (by omega)
theorem low24 (n : Int) : bits .and .i64 n 16777215 = n % 16777216 := and_low n 24 (by omega)
theorem low4 (n : Int) : bits .and .i64 n 15 = n % 16 := and_low n 4 (by omega)
theorem ButB.keepc {b g i : Nat} {w w' : World} {x : Value} (h : ButB b w w') (hc : w.cell? ⟨g, i, none⟩ = some x) (hn : g ≠ b) : w'.cell? ⟨g, i, none⟩ = some x := by
  have e := h.block g (block_lt_cell hc) hn
  rw [← hc]
  unfold World.cell?
  rw [show (⟨g, i, none⟩ : Addr).block = g from rfl, e]
theorem meas_up {n k : Nat} {z : Int} (e : z = (k : Int) + 1) (h : k < n) : n - (intOf (.int .i64 z)).toNat < n - (intOf (.int .i64 (k : Int))).toNat := by
  subst e
  show n - ((k : Int) + 1).toNat < n - ((k : Int)).toNat
  omega
def FindRel (w : World) (b rb sb n : Nat) (r gap dl h st : Int) (nv iv : Value) (wr : World) : Prop :=
  ∃ (k : Nat) (s : PS) (N : Int), iv = .int .i64 (k : Int) ∧ nv = .int .i64 N ∧ 1000 + (k : Int) * gap = N ∧ k ≤ n ∧ FindS r gap dl h st k s ∧ Pr wr b s ∧ Below w.heap.size w wr ∧ wr.cell? ⟨rb, 0, none⟩ = some (.int .i64 r) ∧ wr.cell? ⟨sb, 0, none⟩ = some (.int .i64 st)
set_option maxRecDepth 20000 in
set_option maxHeartbeats 4000000 in
theorem finds_any (x0 x1 x2 x3 x4 x5 : Int) (w : World) : Calls Try.prog 5 #[.int .i64 x0, .int .i64 x1, .int .i64 x2, .int .i64 x3, .int .i64 x4, .int .i64 x5] w fun e w' => e = .returned (.bool true) ∧ Below w.heap.size w w' := by
  have HH := Lib.hid (fun W => head_ret W)
  have HCf := Lib.hid (fun W => conf_any W)
  have HN := Lib.hid (fun W => new_ok 5 1 1099511627776 1048576 4 3 W (by decide))
  have l0 := low12 x0
  have l1 := low16 x1
  have l2 := low20 x2
  have l3 := low8 x3
  have l4 := low24 x4
  have l5 := low4 x5
  obtain ⟨dl, hdl⟩ : ∃ dl, x0 % 4096 = dl := ⟨_, rfl⟩
  obtain ⟨h, hh⟩ : ∃ h, x1 % 65536 = h := ⟨_, rfl⟩
  obtain ⟨gap, hgap⟩ : ∃ gap, 100000 + x2 % 1048576 = gap := ⟨_, rfl⟩
  obtain ⟨r, hr⟩ : ∃ r, 2199023255552 + (x3 % 256 - 128) * 2199023 = r := ⟨_, rfl⟩
  obtain ⟨st, hst⟩ : ∃ st, x4 % 16777216 = st := ⟨_, rfl⟩
  obtain ⟨n, hn⟩ : ∃ n : Nat, 2 + x5 % 16 = (n : Int) := ⟨(2 + x5 % 16).toNat, by omega⟩
  have d0 : 0 ≤ dl := by omega
  have d1 : dl ≤ 4095 := by omega
  have h0 : 0 ≤ h := by omega
  have h1 : h ≤ 65535 := by omega
  have g0 : 100000 ≤ gap := by omega
  have g1 : gap ≤ 1148575 := by omega
  have s0 : 0 ≤ st := by omega
  have s1 : st ≤ 16777215 := by omega
  have n2 : 2 ≤ n := by omega
  have n17 : n ≤ 17 := by omega
  have hr1 : Near1 r := ⟨by omega, by omega⟩
  have u1 : wrap64 (100000 + x2 % 1048576) = gap := by unfold wrap64; omega
  have u2 : wrap64 (x3 % 256 - 128) = x3 % 256 - 128 := by unfold wrap64; omega
  have u3 : wrap64 ((x3 % 256 - 128) * 2199023) = (x3 % 256 - 128) * 2199023 := by unfold wrap64; omega
  have u4 : wrap64 (2199023255552 + (x3 % 256 - 128) * 2199023) = r := by unfold wrap64; omega
  have u5 : wrap64 (2 + x5 % 16) = (n : Int) := by unfold wrap64; omega
  rw [hdl] at l0
  rw [hh] at l1
  rw [hst] at l4
  have HR1 := Lib.hid hr1
  have HG := Lib.hid (And.intro (And.intro d0 d1) (And.intro (And.intro h0 h1) (And.intro (And.intro g0 g1) (And.intro (And.intro s0 s1) (And.intro n2 n17)))))
  have H0 : Hid (FindS r gap dl h st 0 (PS.new 5 1 1099511627776 1048576 4 3)) := Lib.hid ⟨own5_new 3, rfl, rfl, rfl, rfl, fun h => by omega⟩
  clear hdl hh hst d0 d1 h0 h1 g0 g1 s0 s1 n2 n17 hr1
  go_enter Try.func5, Try.ntmps5
  go_wp2_with (first
    | (go_at_call 11; (with_reducible refine (HH.out _).mono ?_); rintro e w1 ⟨rfl, hb⟩; have q0 := hb.block w.heap.size (by simp); rw [heap_alloc_new] at q0; have c0 := cell_of_row _ _ 0 _ _ _ q0; have f0 : ∀ i, w1.frozen? ⟨w.heap.size, i, none⟩ = false := (fun i => frozen_of_row _ _ _ _ _ q0); simp only [List.getElem?_toArray, List.getElem?_cons_zero] at c0; have HQ0 := Lib.hid q0; have HB1 := Lib.hid (bTr (bAl (bRef w) _) hb); have HS1 := Lib.hid (lt_of_heap q0); clear hb q0)
    | (go_at_call 17; (with_reducible refine (HCf.out _).mono ?_); rintro e w2 ⟨rfl, hb⟩; have q1 := heap_setCell_same w1 w.heap.size 0 _ _ (.int .i64 st) HQ0.out; have q2 := (hb.block w.heap.size (by have := HS1.out; simp; omega)).trans ((heap_alloc_old (w1.setCell ⟨w.heap.size, 0, none⟩ (.int .i64 st)) _ (lt_of_heap q1)).trans q1); have q3 := (hb.block w1.heap.size (by simp)); have q4 := heap_alloc_new (w1.setCell ⟨w.heap.size, 0, none⟩ (.int .i64 st)) (.cells #[.int .i64 r] 25); rw [show (w1.setCell ⟨w.heap.size, 0, none⟩ (.int .i64 st)).heap.size = w1.heap.size by simp] at q4; rw [q4] at q3; have HQ2 := Lib.hid q2; have HQ3 := Lib.hid q3; have HB2 := Lib.hid (bTr (bAl (bSet HB1.out ⟨w.heap.size, 0, none⟩ (Nat.le_refl _) (.int .i64 st)) _) hb); clear hb q1 q2 q3 q4)
    | (go_at_call 12; (with_reducible refine (HN.out _).mono ?_); rintro e w3 ⟨b, rfl, hlo, hp, hb⟩; have HP3 := Lib.hid hp; have HB3 := Lib.hid (bTr HB2.out hb); have l2 := lt_of_heap HQ2.out; have l3 := lt_of_heap HQ3.out; have HL2 := Lib.hid (show w.heap.size ≠ b from (by omega)); have HL3 := Lib.hid (show w1.heap.size ≠ b from (by omega)); have HLW := Lib.hid (show w.heap.size ≤ b from (by omega)); have HC3 : Hid (w3.cell? ⟨w1.heap.size, 0, none⟩ = some (.int .i64 r)) := Lib.hid (cell_of_row _ _ 0 _ _ _ ((hb.block _ l3).trans HQ3.out)); have HC2 : Hid (w3.cell? ⟨w.heap.size, 0, none⟩ = some (.int .i64 st)) := Lib.hid (cell_of_row _ _ 0 _ _ _ ((hb.block _ l2).trans HQ2.out)); clear hp hb hlo l2 l3))
  go_loopw [17, 18] (fun nv iv wr => FindRel w b w1.heap.size w.heap.size n r gap dl h st nv iv wr) (fun _ iv _ => n - (intOf iv).toNat)
  case atStart => exact ⟨0, _, 1000, rfl, rfl, by simp, by omega, H0.out, HP3.out, HB3.out, HC3.out, HC2.out⟩
  case round =>
    clear HP3 HB1 HB2 HB3 HC3 HC2 HN HCf HH H0 HQ0 HQ2 HQ3 HS1 c0 f0 hgap hr hn u1 u2 u3 u4 u5 l0 l1 l2 l3 l4 l5
    obtain ⟨k, s, N, rfl, rfl, hN, hk, hs, hp, hb, hc1, hc2⟩ := hrel
    obtain ⟨⟨d0, d1⟩, ⟨h0, h1⟩, ⟨g0, g1⟩, ⟨s0, s1⟩, n2, n17⟩ := HG.out
    have HP := Lib.hid hp
    have HB := Lib.hid hb
    have HC1 := Lib.hid hc1
    have HC2 := Lib.hid hc2
    clear hp hb hc1 hc2
    rcases Nat.lt_or_ge k n with g2 | g2
    · have hd : decide ((k : Int) < (n : Int)) = true := decide_eq_true (by omega)
      have hkg : (k : Int) * gap ≤ 16 * 1148575 := Int.mul_le_mul (by omega) g1 (by omega) (by omega)
      have hkg0 : 0 ≤ (k : Int) * gap := Int.mul_nonneg (by omega) (by omega)
      have hN2 : 1000 + ((k + 1 : Nat) : Int) * gap = N + gap := by
        rw [show ((k + 1 : Nat) : Int) = (k : Int) + 1 by omega, Int.add_mul]
        omega
      have HT := Lib.hid (fun W (h : Pr W b s) => find_talk h hs (by omega) HR1.out d0 d1 h0 h1 g0 g1 s0 s1 hN)
      have e1 : wrap64 (N * 65536) = N * 65536 := by unfold wrap64; omega
      have e2 : wrap64 (N + dl) = N + dl := by unfold wrap64; omega
      have e3 : wrap64 (N + dl + h) = N + dl + h := by unfold wrap64; omega
      have e4 : wrap64 (2 * dl) = 2 * dl := by unfold wrap64; omega
      have e5 : wrap64 (N + 2 * dl) = N + 2 * dl := by unfold wrap64; omega
      have e6 : wrap64 (N + 2 * dl + h) = N + 2 * dl + h := by unfold wrap64; omega
      have e7 : wrap64 ((N + 2 * dl + h) * 65536) = (N + 2 * dl + h) * 65536 := by unfold wrap64; omega
      have e8 : wrap64 (N + gap) = N + gap := by unfold wrap64; omega
      have e9 : wrap64 ((k : Int) + 1) = (k : Int) + 1 := by unfold wrap64; omega
      have HA1 : Hid (∀ W, W.cell? ⟨w1.heap.size, 0, none⟩ = some (.int .i64 r) → W.cell? ⟨w.heap.size, 0, none⟩ = some (.int .i64 st) → Calls Try.prog 22 #[.int .i64 (N + dl), .pointer (some ⟨w1.heap.size, 0, none⟩), .pointer (some ⟨w.heap.size, 0, none⟩)] W fun e w' => e = .returned (.int .i64 (tl r (N + dl) + st * 65536)) ∧ Below W.heap.size W w') := Lib.hid (fun W a b => there_any HR1.out (by omega) (by omega) s0 s1 a b)
      have HA2 : Hid (∀ W, W.cell? ⟨w1.heap.size, 0, none⟩ = some (.int .i64 r) → W.cell? ⟨w.heap.size, 0, none⟩ = some (.int .i64 st) → Calls Try.prog 22 #[.int .i64 (N + dl + h), .pointer (some ⟨w1.heap.size, 0, none⟩), .pointer (some ⟨w.heap.size, 0, none⟩)] W fun e w' => e = .returned (.int .i64 (tl r (N + dl + h) + st * 65536)) ∧ Below W.heap.size W w') := Lib.hid (fun W a b => there_any HR1.out (by omega) (by omega) s0 s1 a b)
      generalize tl r (N + dl) + st * 65536 = T1 at *
      generalize tl r (N + dl + h) + st * 65536 = T2 at *
      have HNN := Lib.hid hN2
      have HK := Lib.hid hk
      clear d0 d1 h0 h1 g0 g1 s0 s1 n2 n17 hkg hkg0 hN hN2 hs hk
      go_wp2_with (first
        | (go_at_call 22; (with_reducible refine (HA1.out _ HC1.out HC2.out).mono ?_); rintro e w4 ⟨rfl, hb⟩; have HP4 := Lib.hid (HP.out.below hb); have HB4 := Lib.hid (bTr HB.out hb); have HC14 := Lib.hid ((hb.cell (block_lt_cell HC1.out)).trans HC1.out); have HC24 := Lib.hid ((hb.cell (block_lt_cell HC2.out)).trans HC2.out); clear hb)
        | (go_at_call 22; (with_reducible refine (HA2.out _ HC14.out HC24.out).mono ?_); rintro e w5 ⟨rfl, hb⟩; have HP5 := Lib.hid (HP4.out.below hb); have HB5 := Lib.hid (bTr HB4.out hb); have HC15 := Lib.hid ((hb.cell (block_lt_cell HC14.out)).trans HC14.out); have HC25 := Lib.hid ((hb.cell (block_lt_cell HC24.out)).trans HC24.out); clear hb)
        | (go_at_call 24; (with_reducible refine (HT.out _ (HP5.out.alloc _)).mono ?_); rintro e w6 ⟨rfl, s', hs', hl⟩; have HS6 := Lib.hid hs'; have HP6 := Lib.hid hl.1; have HB6 := Lib.hid (hl.2.into (bAl HB5.out _) HLW.out); have HC16 := Lib.hid (hl.2.keepc (((bAl (bRef w5) _).cell (block_lt_cell HC15.out)).trans HC15.out) HL3.out); have HC26 := Lib.hid (hl.2.keepc (((bAl (bRef w5) _).cell (block_lt_cell HC25.out)).trans HC25.out) HL2.out); clear hs' hl))
      clear e1 e2 e3 e4 e5 e6 e7 hd
      go_roundw
      case rel => exact ⟨k + 1, s', _, by go_num, rfl, HNN.out.trans e8.symm, g2, HS6.out, HP6.out, HB6.out, HC16.out, HC26.out⟩
      case measure =>
        exact meas_up e9 g2
    · obtain rfl : k = n := by omega
      have hd : decide ((k : Int) < (k : Int)) = false := decide_eq_false (by omega)
      obtain ⟨k1, k2, k3, k4⟩ := hs.good n2
      have hml : 2 ≤ s.ms.length := by rw [hs.ms, marks_len]; omega
      have HAb : Hid (∀ W, Pr W b s → Calls Try.prog 26 #[.pointer (some ⟨b, 0, none⟩)] W fun e w' => e = .returned (.bool true) ∧ w' = W) := Lib.hid (fun W h => by have key := able_any h; rw [decide_eq_true hml] at key; exact key)
      have HRt : Hid (∀ W, Pr W b s → Calls Try.prog 25 #[.pointer (some ⟨b, 0, none⟩)] W fun e w' => e = .returned (.int .i64 s.rate) ∧ w' = W) := Lib.hid (fun W h => by have key := rate_any h; rw [if_pos hml] at key; exact key)
      have HDe : Hid (∀ W, Pr W b s → Calls Try.prog 21 #[.pointer (some ⟨b, 0, none⟩)] W fun e w' => e = .returned (.int .i64 s.delay) ∧ w' = W) := Lib.hid (fun W h => delay_any h)
      obtain ⟨D, hD⟩ : ∃ D, s.delay - dl * 65536 = D := ⟨_, rfl⟩
      obtain ⟨O, hO⟩ : ∃ O, s.rate - r = O := ⟨_, rfl⟩
      have e1 : wrap64 (dl * 65536) = dl * 65536 := by unfold wrap64; omega
      have e2 : wrap64 (s.delay - dl * 65536) = D := by unfold wrap64; omega
      have e3 : IntKind.i64.wrap (s.rate - r) = O := by rw [IntKind.wrap_i64]; omega
      have m1 : decide ((-65536 : Int) ≤ D) = true := decide_eq_true (by omega)
      have m2 : decide (D ≤ (65536 : Int)) = true := decide_eq_true (by omega)
      have m3 : decide ((-4096 : Int) < O) = true := decide_eq_true (by omega)
      have m4 : decide (O < (4096 : Int)) = true := decide_eq_true (by omega)
      have hc1 := HC1.out
      clear k1 k2 k3 k4 hml hs hN d0 d1 h0 h1 g0 g1 s0 s1 n2 n17 hD hO hk
      go_wp2_with (first
        | (go_at_call 21; (with_reducible refine (HDe.out _ HP.out).mono ?_); rintro e w4 ⟨rfl, rfl⟩))
      go_quiet ((go_at_call 25; exact Calls.quiet_of_same (HRt.out _ (HP.out.below (bDr (bRef _) _)))))
      go_wp2_with (first
        | (go_at_call 26; (with_reducible refine (HAb.out _ (HP.out.below (bDr (bRef _) _))).mono ?_); rintro e w5 ⟨rfl, rfl⟩))
      go_ret
      exact ⟨rfl, bDr HB.out _⟩

theorem peerFinds_holds : Rows.PeerFindsSaid := peerFinds_of (fun x0 x1 x2 x3 x4 x5 w _ _ _ _ _ _ => finds_any x0 x1 x2 x3 x4 x5 w)

end Go.Proofs.Ytnfoimkiihfalaa
