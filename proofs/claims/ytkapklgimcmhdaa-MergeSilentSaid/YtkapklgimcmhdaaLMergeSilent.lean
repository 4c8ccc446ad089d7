/- For every two numbers MergeSilent answers true: as long as all frames come on both ways nothing is told; once one is silent for long, it is. No condition. -/
import Derived.Test.YtkapklgimcmhdaaFMergeSilent
import Derived.Test.YtkapklgimcmhdaaMgSil
namespace Go.Proofs.Ytkapklgimcmhdaa
open Go.RowKit Go.Joins

def SilRel (w : World) (b lo hi n : Nat) (limit : Int) (sv iv : Value) (wr : World) : Prop :=
  ∃ (k : Nat) (m : MG) (t : Int), sv = .int .i64 (k : Int) ∧ iv = .int .i64 (k : Int) ∧ k ≤ n ∧ Mg wr b lo hi m ∧ Ph m limit k k k t 0 ∧ t ≤ (k : Int) ∧ 0 ≤ t ∧ m.last = 0 ∧ m.silent = 0 ∧ w.heap.size ≤ lo ∧ Below w.heap.size w wr
def SilIn (w : World) (b lo hi k : Nat) (limit : Int) (wv : Value) (wr : World) : Prop :=
  ∃ (j : Nat) (m : MG) (t : Int), wv = .int .i64 (j : Int) ∧ ((j = 0 ∧ Ph m limit k k k t 0) ∨ (j = 1 ∧ Ph m limit (k + 1) k (k + 1) t 1 ∧ Seen m.all (k : Int)) ∨ (j = 2 ∧ Ph m limit (k + 1) (k + 1) (k + 1) t 0)) ∧ Mg wr b lo hi m ∧ t ≤ (k : Int) ∧ 0 ≤ t ∧ m.last = 0 ∧ m.silent = 0 ∧ w.heap.size ≤ lo ∧ Below w.heap.size w wr
def SilEnd (w : World) (b lo hi n : Nat) (limit : Int) (sv iv : Value) (wr : World) : Prop :=
  ∃ (k : Nat) (m : MG) (t : Int), iv = .int .i64 (k : Int) ∧ sv = .int .i64 ((n + k : Nat) : Int) ∧ (k : Int) ≤ limit + 1 ∧ Mg wr b lo hi m ∧ Ph m limit n (n + k) (n + k) t (k : Int) ∧ t ≤ 200 + (k : Int) ∧ 0 ≤ t ∧ m.last = 100 ∧ m.silent = 0 ∧ w.heap.size ≤ lo ∧ Below w.heap.size w wr
set_option maxRecDepth 20000 in
set_option maxHeartbeats 8000000 in
theorem silent_walk (n0 limit0 : Int) (w : World) : Calls Try.prog 10 #[.int .i64 n0, .int .i64 limit0] w fun e w' => e = .returned (.bool true) ∧ Below w.heap.size w w' := by
  have HH := Lib.hid mhead_ret
  have en := low6 n0
  have el := low4 limit0
  obtain ⟨n, hn⟩ : ∃ n : Nat, n0 % 64 = (n : Int) := ⟨(n0 % 64).toNat, by omega⟩
  obtain ⟨limit, hl⟩ : ∃ limit, limit0 % 16 = limit := ⟨_, rfl⟩
  have HNB : Hid (n < 64) := Lib.hid (by omega)
  have HLB : Hid (0 ≤ limit ∧ limit < 16) := Lib.hid (by omega)
  rw [hn] at en
  rw [hl] at el
  clear hn hl
  have HP := Lib.hid (fun W => plain_ret limit W)
  have HN : Hid (∀ W, Calls Try.prog 28 #[MV 2 0 16 1099511627776 0 16 1099511627776 10 limit, .int .i64 0] W fun e w' => ∃ b lo, e = .returned (.tuple #[.pointer (some ⟨b, 0, none⟩), .int .i64 0]) ∧ W.heap.size ≤ lo ∧ Mg w' b lo w'.heap.size (P0 limit) ∧ Below W.heap.size W w') := Lib.hid (fun W => mnew_ok 2 0 16 1099511627776 0 16 1099511627776 10 limit 0 W ⟨by decide, by decide, ⟨HLB.out.1, by have := HLB.out; omega⟩, by decide, by decide⟩ (by decide) (by decide))
  go_enter Try.func10, Try.ntmps10
  go_wp2_with (first
    | (go_at_call 27; (with_reducible refine (HH.out _).mono ?_); rintro e x0 ⟨rfl, hb⟩; have HB0 := Lib.hid hb; clear hb)
    | (go_at_call 34; (with_reducible refine (HP.out _).mono ?_); rintro e x1 ⟨rfl, hb⟩; have HB1 := Lib.hid (bTr HB0.out hb); clear hb)
    | (go_at_call 28; (with_reducible refine (HN.out _).mono ?_); rintro e x2 ⟨b, lo, rfl, hlo, hm, hb⟩; have HM2 := Lib.hid hm; have HLO : Hid (w.heap.size ≤ lo) := Lib.hid (Nat.le_trans HB1.out.size hlo); have HB2 := Lib.hid (bTr HB1.out hb); clear hlo hm hb))
  go_loopw [7, 8] (fun sv iv wr => SilRel w b lo x2.heap.size n limit sv iv wr) (fun _ iv _ => n - (intOf iv).toNat)
  case atStart => exact ⟨0, _, 0, rfl, rfl, by omega, HM2.out, P0_ph limit, Int.le_refl _, Int.le_refl _, rfl, rfl, HLO.out, HB2.out⟩
  case round =>
    obtain ⟨k, m, t, rfl, rfl, hk, hm, hph, ht, ht0, hla, hsi, hlo, hb⟩ := hrel
    have HM := Lib.hid hm
    have HPH := Lib.hid hph
    have HLa := Lib.hid hla
    have HSi := Lib.hid hsi
    have HLo := Lib.hid hlo
    have HB := Lib.hid hb
    have hnb := HNB.out
    clear hm hph hla hsi hlo hb HM2 HB2 HB1 HB0 HLO
    rcases Nat.lt_or_ge k n with g1 | g1
    · have hd : decide ((k : Int) < (n : Int)) = true := decide_eq_true (by omega)
      go_wp2_with fail
      go_loopw [9] (fun wv wr => SilIn w b lo x2.heap.size k limit wv wr) (fun wv _ => 2 - (intOf wv).toNat)
      case atStart => exact ⟨0, m, t, rfl, .inl ⟨rfl, HPH.out⟩, HM.out, ht, ht0, HLa.out, HSi.out, HLo.out, HB.out⟩
      case round =>
        clear HM HPH HLa HSi HLo HB ht ht0 m t
        obtain ⟨j, m, t, rfl, hj, hm, ht, ht0, hla, hsi, hlo, hb⟩ := hrel
        have HM := Lib.hid hm
        have HLa := Lib.hid hla
        have HSi := Lib.hid hsi
        have HLo := Lib.hid hlo
        have HB := Lib.hid hb
        clear hm hla hsi hlo hb
        rcases hj with ⟨rfl, hph⟩ | ⟨rfl, hph, hs⟩ | ⟨rfl, hph⟩
        · obtain ⟨p1, p2, p3, p4, p5⟩ := hph.first (now := (k : Int)) ht (by omega) (by omega) (by omega) (by omega)
          have HI : Hid (∀ W, Mg W b lo x2.heap.size m → Calls Try.prog 30 #[.pointer (some ⟨b, 0, none⟩), .int .i64 (k : Int), .int .i64 0, .int .i64 (k : Int)] W fun e w' => e = .returned (.tuple #[.bool true, .int .i64 0]) ∧ Mg w' b lo x2.heap.size (m.into (k : Int) 0 (k : Int)) ∧ ButI lo x2.heap.size W w') := Lib.hid (fun W hW => by
            have q := min_ok hW hph.g (k : Int) (k : Int) 0 (by rw [hph.n]; omega) (by omega) (by omega) (by omega) (by omega)
            rw [decide_eq_true p1] at q; exact q)
          have HX := Lib.hid (show Ph _ _ _ _ _ _ _ ∧ _ ∧ _ ∧ _ from ⟨p2, p3, p4.trans HLa.out, p5.trans HSi.out⟩)
          clear p1 p2 p3 p4 p5 hph
          generalize m.into (k : Int) 0 (k : Int) = m2 at *
          rw [show ((0 : Nat) : Int) = 0 from rfl]
          go_wp2_with (go_at_call 30; (with_reducible refine (HI.out _ HM.out).mono ?_); rintro e x3 ⟨rfl, hm, hb⟩; have HM3 := Lib.hid hm; have HB3 := Lib.hid (HB.out.trans (hb.below HLo.out HM.out.top.1 (by have := HM.out.top; omega))); clear hm hb)
          go_roundw
          case rel => exact ⟨1, m2, (k : Int), rfl, .inr (.inl ⟨rfl, HX.out.1, HX.out.2.1⟩), HM3.out, Int.le_refl _, by omega, HX.out.2.2.1, HX.out.2.2.2, HLo.out, HB3.out⟩
          case measure => simp [intOf]
        · obtain ⟨p1, p2, p4, p5⟩ := hph.second (now := (k : Int)) hs ht (by omega) (by omega) (by omega) (by omega)
          have HI : Hid (∀ W, Mg W b lo x2.heap.size m → Calls Try.prog 30 #[.pointer (some ⟨b, 0, none⟩), .int .i64 (k : Int), .int .i64 1, .int .i64 (k : Int)] W fun e w' => e = .returned (.tuple #[.bool false, .int .i64 0]) ∧ Mg w' b lo x2.heap.size (m.into (k : Int) 1 (k : Int)) ∧ ButI lo x2.heap.size W w') := Lib.hid (fun W hW => by
            have q := min_ok hW hph.g (k : Int) (k : Int) 1 (by rw [hph.n]; omega) (by omega) (by omega) (by omega) (by omega)
            rw [decide_eq_false p1] at q; exact q)
          have HX := Lib.hid (show Ph _ _ _ _ _ _ _ ∧ _ ∧ _ from ⟨p2, p4.trans HLa.out, p5.trans HSi.out⟩)
          clear p1 p2 p4 p5 hph
          generalize m.into (k : Int) 1 (k : Int) = m2 at *
          rw [show ((1 : Nat) : Int) = 1 from rfl]
          go_wp2_with (go_at_call 30; (with_reducible refine (HI.out _ HM.out).mono ?_); rintro e x3 ⟨rfl, hm, hb⟩; have HM3 := Lib.hid hm; have HB3 := Lib.hid (HB.out.trans (hb.below HLo.out HM.out.top.1 (by have := HM.out.top; omega))); clear hm hb)
          go_roundw
          case rel => exact ⟨2, m2, (k : Int), rfl, .inr (.inr ⟨rfl, HX.out.1⟩), HM3.out, Int.le_refl _, by omega, HX.out.2.1, HX.out.2.2, HLo.out, HB3.out⟩
          case measure => simp [intOf]
        · have HPH := Lib.hid hph
          clear hph
          rw [show ((2 : Nat) : Int) = 2 from rfl]
          go_wp2_with fail
          go_roundw
          case rel => exact ⟨k + 1, m, t, by go_num, by go_num, by omega, HM.out, HPH.out, by omega, ht0, HLa.out, HSi.out, HLo.out, HB.out⟩
          case measure => simp [intOf]; omega
    · obtain rfl : k = n := by omega
      have hd : decide ((k : Int) < (k : Int)) = false := decide_eq_false (by omega)
      obtain ⟨hl0, hl1⟩ := HLB.out
      have hph := HPH.out
      have HK1 : Hid (∀ W, Mg W b lo x2.heap.size m → Calls Try.prog 31 #[.pointer (some ⟨b, 0, none⟩), .int .i64 100] W fun e w' => e = .returned (.bool false) ∧ Mg w' b lo x2.heap.size (m.looked 100) ∧ ButI lo x2.heap.size W w') := Lib.hid (fun W hW => by
        have q := mlook_yes hW 100 (by rw [HLa.out, hph.every]; decide) ⟨by rw [HLa.out, hph.every]; decide, by decide⟩
        rw [decide_eq_false (by rw [hph.limit, hph.sh]; omega)] at q; exact q)
      have HX : Hid (Ph (m.looked 100) limit k k k t 0 ∧ (m.looked 100).last = 100 ∧ (m.looked 100).silent = 0) := Lib.hid ⟨hph.looked 100, rfl, by
        show (if m.limit < m.short then wrap64 (m.silent + 1) else m.silent) = 0
        rw [hph.limit, hph.sh, if_neg (by omega)]; exact HSi.out⟩
      clear hph
      generalize m.looked 100 = m1 at *
      go_wp2_with (go_at_call 31; (with_reducible refine (HK1.out _ HM.out).mono ?_); rintro e x3 ⟨rfl, hm, hb⟩; have HM3 := Lib.hid hm; have HB3 := Lib.hid (HB.out.trans (hb.below HLo.out HM.out.top.1 (by have := HM.out.top; omega))); clear hm hb)
      go_loopw [7, 12] (fun sv iv wr => SilEnd w b lo x2.heap.size k limit sv iv wr) (fun _ iv _ => 17 - (intOf iv).toNat)
      case atStart => exact ⟨0, m1, t, rfl, rfl, by omega, HM3.out, HX.out.1, by omega, ht0, HX.out.2.1, HX.out.2.2, HLo.out, HB3.out⟩
      case round =>
        clear HM3 HB3 HX HM HPH HLa HSi HB HK1 ht ht0 m1
        obtain ⟨i, m2, t2, rfl, rfl, hi, hm, hph, ht, ht0, hla, hsi, hlo, hb⟩ := hrel
        have HM := Lib.hid hm
        have HB := Lib.hid hb
        clear hm hb
        by_cases g2 : (i : Int) ≤ limit
        · have hd2 : decide ((i : Int) ≤ limit) = true := decide_eq_true g2
          obtain ⟨p1, p2, p4, p5⟩ := hph.alone (now := 200 + (i : Int)) (by omega) (by omega) (by omega) (by omega) (by omega)
          have HI : Hid (∀ W, Mg W b lo x2.heap.size m2 → Calls Try.prog 30 #[.pointer (some ⟨b, 0, none⟩), .int .i64 (200 + (i : Int)), .int .i64 1, .int .i64 ((k + i : Nat) : Int)] W fun e w' => e = .returned (.tuple #[.bool true, .int .i64 0]) ∧ Mg w' b lo x2.heap.size (m2.into (200 + (i : Int)) 1 ((k + i : Nat) : Int)) ∧ ButI lo x2.heap.size W w') := Lib.hid (fun W hW => by
            have q := min_ok hW hph.g (200 + (i : Int)) ((k + i : Nat) : Int) 1 (by rw [hph.n]; omega) (by omega) (by omega) (by omega) (by omega)
            rw [decide_eq_true p1] at q; exact q)
          have HX : Hid (Ph (m2.into (200 + (i : Int)) 1 ((k + i : Nat) : Int)) limit k (k + (i + 1)) (k + (i + 1)) (200 + (i : Int)) ((i + 1 : Nat) : Int) ∧ (m2.into (200 + (i : Int)) 1 ((k + i : Nat) : Int)).last = 100 ∧ (m2.into (200 + (i : Int)) 1 ((k + i : Nat) : Int)).silent = 0) := Lib.hid ⟨p2, p4.trans hla, p5.trans hsi⟩
          have e1 : wrap64 (200 + (i : Int)) = 200 + (i : Int) := by unfold wrap64; omega
          have HLo := Lib.hid hlo
          have HSq : Hid (((k + i : Nat) : Int) + 1 = ((k + (i + 1) : Nat) : Int)) := Lib.hid (by omega)
          clear p1 p2 p4 p5 hph hla hsi hlo
          obtain ⟨S, hS⟩ : ∃ S : Int, ((k + i : Nat) : Int) = S := ⟨_, rfl⟩
          rw [hS] at HI HX HSq
          have e2 : wrap64 (S + 1) = S + 1 := by unfold wrap64; omega
          rw [hS]
          have HSS := Lib.hid hS
          clear hS
          generalize m2.into (200 + (i : Int)) 1 S = m3 at *
          go_wp2_with (go_at_call 30; (with_reducible refine (HI.out _ HM.out).mono ?_); rintro e x4 ⟨rfl, hm, hb⟩; have HM4 := Lib.hid hm; have HB4 := Lib.hid (HB.out.trans (hb.below HLo.out HM.out.top.1 (by have := HM.out.top; omega))); clear hm hb)
          go_roundw
          case rel => exact ⟨i + 1, m3, _, by go_num, by rw [← HSq.out, e2], by omega, HM4.out, HX.out.1, by omega, by omega, HX.out.2.1, HX.out.2.2, HLo.out, HB4.out⟩
          case measure => simp [intOf]; omega
        · have hd2 : decide ((i : Int) ≤ limit) = false := decide_eq_false g2
          have HK2 : Hid (∀ W, Mg W b lo x2.heap.size m2 → Calls Try.prog 31 #[.pointer (some ⟨b, 0, none⟩), .int .i64 300] W fun e w' => e = .returned (.bool true) ∧ Mg w' b lo x2.heap.size (m2.looked 300) ∧ ButI lo x2.heap.size W w') := Lib.hid (fun W hW => by
            have q := mlook_yes hW 300 (by rw [hla, hph.every]; decide) ⟨by rw [hla, hph.every]; decide, by decide⟩
            rw [decide_eq_true (by rw [hph.limit, hph.sh]; omega)] at q; exact q)
          have hs3 : (m2.looked 300).silent = 1 := by
            show (if m2.limit < m2.short then wrap64 (m2.silent + 1) else m2.silent) = 1
            rw [hph.limit, hph.sh, if_pos (by omega), hsi]; unfold wrap64; omega
          have he3 : (m2.looked 300).last + (m2.looked 300).every = 310 := by
            show (300 : Int) + m2.every = 310
            rw [hph.every]; rfl
          have HK3 : Hid (∀ W, Mg W b lo x2.heap.size (m2.looked 300) → Calls Try.prog 31 #[.pointer (some ⟨b, 0, none⟩), .int .i64 301] W fun e w' => e = .returned (.bool false) ∧ Below W.heap.size W w') := Lib.hid (fun W hW => mlook_no hW 301 (by rw [he3]; decide) (fun h => by have := h.1; omega))
          have HK4 : Hid (∀ W, Mg W b lo x2.heap.size (m2.looked 300) → Calls Try.prog 32 #[.pointer (some ⟨b, 0, none⟩)] W fun e w' => e = .returned (.int .i64 1) ∧ w' = W) := Lib.hid (fun W hW => by
            have q := msilent_any hW
            rw [hs3] at q; exact q)
          have HLo := Lib.hid hlo
          clear hph hla hsi hlo hs3 he3
          generalize m2.looked 300 = m3 at *
          have ST : Hid True := Lib.hid trivial
          go_wp2_with (first
            | (go_at_call 31; (with_reducible refine (HK2.out _ HM.out).mono ?_); rintro e x4 ⟨rfl, hm, hb⟩; clear ST; have HM4 := Lib.hid hm; have HB4 := Lib.hid (HB.out.trans (hb.below HLo.out HM.out.top.1 (by have := HM.out.top; omega))); clear hm hb)
            | (go_at_call 31; (with_reducible refine (HK3.out _ HM4.out).mono ?_); rintro e x5 ⟨rfl, hb⟩; have HM5 := Lib.hid (HM4.out.below hb); have HB5 := Lib.hid (HB4.out.trans (hb.mono HB4.out.size)); clear hb)
            | (go_at_call 32; (with_reducible refine (HK4.out _ HM5.out).mono ?_); rintro e x6 ⟨rfl, rfl⟩))
          go_ret
          exact ⟨rfl, HB5.out⟩

theorem mergeSilent_holds : Rows.MergeSilentSaid := mergeSilent_of (fun n limit w _ _ => silent_walk n limit w)

end Go.Proofs.Ytkapklgimcmhdaa
