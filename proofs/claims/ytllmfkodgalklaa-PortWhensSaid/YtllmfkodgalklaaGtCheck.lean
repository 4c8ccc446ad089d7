/- Package gates: Check. -/
import Derived.Test.YtllmfkodgalklaaGtOps
namespace Go.Proofs.Ytllmfkodgalklaa
open Go.RowKit Go.Joins

set_option maxHeartbeats 1000000 in
theorem check_some (b c : Int) (bk o cap : Nat) (ts : List (Int × Int)) (w : World) (hr : RdT w bk o ts) (h0 : 0 < ts.length) (h64 : ts.length ≤ 64) (hi : Ints ts) (hc : long c) (hb0 : 0 ≤ b) (hb1 : b ≤ 1099511627776) :
    Calls Try.prog 10 #[LV b c (.slice (some ⟨bk, o, none⟩) ts.length cap)] w fun e w' => e = .returned (.int .i64 (chkFrom c 0 ts)) ∧ Below w.heap.size w w' := by
  obtain ⟨n, hn⟩ : ∃ n, n = ts.length := ⟨_, rfl⟩
  rw [← hn] at h64 h0 ⊢
  have d1 : decide (64 < (n : Int)) = false := decide_eq_false (by omega)
  have d2 : ((n : Int) == 0) = false := by rw [beq_eq_false_iff_ne]; omega
  have d3 : decide (b < 0) = false := decide_eq_false (by omega)
  have d4 : decide (1099511627776 < b) = false := decide_eq_false (by omega)
  have HL := Lib.hid (isLong_any c)
  rw [decide_eq_true hc] at HL
  have Hn := Lib.hid hn
  have Hr := Lib.hid hr
  have Hi := Lib.hid hi
  have Hc := Lib.hid hc
  clear hn hr hi hc hb0 hb1
  go_enter Try.func10, Try.ntmps10
  go_wp2_with (go_at_call 29; (with_reducible refine (HL.out.go _).mono ?_); rintro e w1 ⟨rfl, rfl⟩)
  go_loopw [3, 33] (fun pv kv wr => ChkRel b c (.slice (some ⟨bk, o, none⟩) n cap) ts w pv kv wr) (fun _ kv _ => n - (intOf kv).toNat)
  case atStart => exact ⟨0, by omega, rfl, rfl, by simp [pre], by have := Hc.out.1; simp [pre]; omega, rfl, LB.new w _ _ _, bAl (bRef w) _⟩
  case round =>
    obtain ⟨k, hk, rfl, rfl, hp0, hp1, hch, hlb, hb⟩ := hrel
    rw [← Hn.out] at hk
    have HB := Lib.hid hb
    have HLB := Lib.hid hlb
    obtain ⟨l0, l1, l2⟩ := hlb.cells
    have hsz := lt_of_heap hlb
    clear hb hlb
    rcases Nat.lt_or_ge k n with g | g
    · have hd : decide ((k : Int) < (n : Int)) = true := decide_eq_true (by omega)
      rw [drop_cons (by rw [← Hn.out]; exact g)] at hch
      obtain ⟨c1, c2⟩ := (Hr.out.below HB.out).2 k (by rw [← Hn.out]; exact g)
      have hin := Hi.out k (by rw [← Hn.out]; exact g)
      have hps := pre_succ ts k
      obtain ⟨a, ha⟩ : ∃ a, a = tA ts k := ⟨_, rfl⟩
      obtain ⟨r, hr⟩ : ∃ r, r = tR ts k := ⟨_, rfl⟩
      obtain ⟨p, hp⟩ : ∃ p, p = pre ts k := ⟨_, rfl⟩
      rw [← ha] at c1 hch hin
      rw [← hr] at c2 hch hin hps
      rw [← hp] at hch hp0 hp1 hps ⊢
      have HC := Lib.hid hch
      have HI := Lib.hid (isLong_any r)
      have two := fun x y => two_cells wr x y 64
      have hcc := Hc.out.2
      have HPS := Lib.hid hps
      have HP := Lib.hid hp
      have L0 : ∀ x : Value, (wr.alloc (.cells #[.int .i64 a, .int .i64 r] 64)).cell? ⟨w.heap.size, 1, none⟩ = some (.int .i64 c) := fun _ => (HLB.out.below (bAl (bRef wr) _)).cells.2.1
      have l1' := L0 (.int .i64 0)
      clear L0 hch ha hr hp hin hps
      by_cases h1 : a < 0
      · have e1 : decide (a < 0) = true := decide_eq_true h1
        have HE : Hid (chkFrom c 0 ts = 1) := Lib.hid (by rw [← HC.out]; exact chk_bad_open (.inl h1))
        clear h1
        go_wp2_with fail
        go_ret
        exact ⟨by rw [HE.out]; rfl, bAl HB.out _⟩
      have e1 : decide (a < 0) = false := decide_eq_false h1
      by_cases h2 : 256 ≤ a
      · have e2 : decide (256 ≤ a) = true := decide_eq_true h2
        have HE : Hid (chkFrom c 0 ts = 1) := Lib.hid (by rw [← HC.out]; exact chk_bad_open (.inr (.inl h2)))
        clear h1 h2
        go_wp2_with fail
        go_ret
        exact ⟨by rw [HE.out]; rfl, bAl HB.out _⟩
      have e2 : decide (256 ≤ a) = false := decide_eq_false h2
      by_cases h3 : long r
      · rw [decide_eq_true h3] at HI
        have hr1 := h3.1
        have hr2 := h3.2
        have e4 : wrap64 (p + r) = p + r := by unfold wrap64; omega
        by_cases h4 : c < p + r
        · have e5 : decide (c < p + r) = true := decide_eq_true h4
          have HE : Hid (chkFrom c 0 ts = 61) := Lib.hid (by rw [← HC.out]; exact chk_bad_sum (fun h => h.elim h1 (fun h => h.elim h2 (fun h => h h3))) h4)
          clear h1 h2 h3 h4 hr1 hr2
          go_wp2_with (go_at_call 29; (with_reducible refine (HI.out.go _).mono ?_); rintro e w1 ⟨rfl, rfl⟩)
          go_ret
          exact ⟨by rw [HE.out]; rfl, bAl HB.out _⟩
        · have e5 : decide (c < p + r) = false := decide_eq_false h4
          have HE : Hid (chkFrom c (p + r) (ts.drop (k + 1)) = chkFrom c 0 ts) := Lib.hid (by rw [← HC.out]; exact (chk_go (fun h => h.elim h1 (fun h => h.elim h2 (fun h => h h3))) h4).symm)
          have HQ : Hid (0 ≤ p + r ∧ p + r ≤ c) := Lib.hid ⟨by omega, by omega⟩
          clear h1 h2 h3 h4 hr1 hr2
          go_wp2_with (go_at_call 29; (with_reducible refine (HI.out.go _).mono ?_); rintro e w1 ⟨rfl, rfl⟩)
          go_roundw
          case rel => exact ⟨k + 1, by rw [← Hn.out]; omega, by go_num, by rw [HPS.out, e4], by rw [HPS.out]; exact HQ.out.1, by rw [HPS.out]; exact HQ.out.2, by rw [HPS.out]; exact HE.out, HLB.out.below (bAl (bRef wr) _), bAl HB.out _⟩
          case measure => simp [intOf]; omega
      · rw [decide_eq_false h3] at HI
        have HE : Hid (chkFrom c 0 ts = 1) := Lib.hid (by rw [← HC.out]; exact chk_bad_open (.inr (.inr h3)))
        clear h1 h2 h3
        go_wp2_with (go_at_call 29; (with_reducible refine (HI.out.go _).mono ?_); rintro e w1 ⟨rfl, rfl⟩)
        go_ret
        exact ⟨by rw [HE.out]; rfl, bAl HB.out _⟩
    · have hd : decide ((k : Int) < (n : Int)) = false := decide_eq_false (by omega)
      have HE : Hid (chkFrom c 0 ts = 0) := Lib.hid (by rw [← hch, List.drop_eq_nil_of_le (by rw [← Hn.out]; exact g)]; rfl)
      clear hch
      go_wp2_with fail
      go_ret
      exact ⟨by rw [HE.out]; rfl, HB.out⟩
theorem check_head (b c : Int) (p : Option Addr) (n cap : Nat) (w : World) (r : Int) (hr : (if 64 < n then (4 : Int) else if n = 0 ∨ ¬ long c ∨ b < 0 ∨ 1099511627776 < b then 1 else 0) = r) (h0 : r ≠ 0) :
    Calls Try.prog 10 #[LV b c (.slice p n cap)] w fun e w' => e = .returned (.int .i64 r) ∧ Below w.heap.size w w' := by
  have HB := Lib.hid (bAl (bRef w) (.cells #[.int .i64 b, .int .i64 c, .slice p n cap] 24))
  have HL := Lib.hid (isLong_any c)
  by_cases h1 : 64 < n
  · rw [if_pos h1] at hr
    subst hr
    have d1 : decide (64 < (n : Int)) = true := decide_eq_true (by omega)
    clear h1 h0
    go_enter Try.func10, Try.ntmps10
    go_wp2_with fail
    go_ret
    exact ⟨rfl, HB.out⟩
  rw [if_neg h1] at hr
  have d1 : decide (64 < (n : Int)) = false := decide_eq_false (by omega)
  by_cases h2 : n = 0
  · rw [if_pos (.inl h2)] at hr
    subst hr
    have d2 : ((n : Int) == 0) = true := by rw [beq_iff_eq]; omega
    clear h1 h0 h2
    go_enter Try.func10, Try.ntmps10
    go_wp2_with fail
    go_ret
    exact ⟨rfl, HB.out⟩
  have d2 : ((n : Int) == 0) = false := by rw [beq_eq_false_iff_ne]; omega
  by_cases h3 : long c
  · rw [decide_eq_true h3] at HL
    by_cases h4 : b < 0
    · rw [if_pos (.inr (.inr (.inl h4)))] at hr
      subst hr
      have d3 : decide (b < 0) = true := decide_eq_true h4
      clear h1 h0 h2 h3 h4
      go_enter Try.func10, Try.ntmps10
      go_wp2_with (go_at_call 29; (with_reducible refine (HL.out.go _).mono ?_); rintro e w1 ⟨rfl, rfl⟩)
      go_ret
      exact ⟨rfl, HB.out⟩
    have d3 : decide (b < 0) = false := decide_eq_false h4
    by_cases h5 : 1099511627776 < b
    · rw [if_pos (.inr (.inr (.inr h5)))] at hr
      subst hr
      have d4 : decide (1099511627776 < b) = true := decide_eq_true h5
      clear h1 h0 h2 h3 h4 h5
      go_enter Try.func10, Try.ntmps10
      go_wp2_with (go_at_call 29; (with_reducible refine (HL.out.go _).mono ?_); rintro e w1 ⟨rfl, rfl⟩)
      go_ret
      exact ⟨rfl, HB.out⟩
    rw [if_neg (fun h => h.elim h2 (fun h => h.elim (fun h => h h3) (fun h => h.elim h4 h5)))] at hr
    exact absurd hr.symm h0
  · rw [decide_eq_false h3] at HL
    rw [if_pos (.inr (.inl h3))] at hr
    subst hr
    clear h1 h0 h2 h3
    go_enter Try.func10, Try.ntmps10
    go_wp2_with (go_at_call 29; (with_reducible refine (HL.out.go _).mono ?_); rintro e w1 ⟨rfl, rfl⟩)
    go_ret
    exact ⟨rfl, HB.out⟩
theorem check_any (b c : Int) (sl : Value) (ts : List (Int × Int)) (w : World) (h : TArg w sl ts) :
    Calls Try.prog 10 #[LV b c sl] w fun e w' => e = .returned (.int .i64 (chkV b c ts)) ∧ Below w.heap.size w w' := by
  by_cases h1 : 64 < ts.length
  · obtain ⟨p, cap, rfl⟩ := h.slice
    unfold chkV
    rw [if_pos h1]
    exact check_head b c p _ cap w 4 (by rw [if_pos h1]) (by decide)
  · by_cases h2 : ts.length = 0 ∨ ¬ long c ∨ b < 0 ∨ 1099511627776 < b
    · obtain ⟨p, cap, rfl⟩ := h.slice
      unfold chkV
      rw [if_neg h1, if_pos h2]
      exact check_head b c p _ cap w 1 (by rw [if_neg h1, if_pos h2]) (by decide)
    · have h0 : 0 < ts.length := Nat.pos_of_ne_zero fun e => h2 (.inl e)
      obtain ⟨bk, o, cap, rfl, hc, hr⟩ := h.at h0
      unfold chkV
      rw [if_neg h1, if_neg h2]
      have hl : long c := Decidable.of_not_not fun e => h2 (.inr (.inl e))
      exact check_some b c bk o cap ts w hr h0 (by omega) h.1 hl (by have := fun e => h2 (.inr (.inr (.inl e))); omega) (by have := fun e => h2 (.inr (.inr (.inr e))); omega)
theorem chkFrom_good {c : Int} : ∀ (ts : List (Int × Int)) (e : Int), chkFrom c e ts = 0 → e ≤ c → (∀ k, k < ts.length → 0 ≤ tA ts k ∧ tA ts k ≤ 255) ∧ (∀ k, k < ts.length → 1 ≤ tR ts k ∧ tR ts k ≤ 1073741824) ∧ ∀ k, k ≤ ts.length → e + pre ts k ≤ c
  | [], e, _, he => ⟨fun k hk => by simp at hk, fun k hk => by simp at hk, fun k hk => by simp at hk; subst hk; simp [pre]; exact he⟩
  | (a, r) :: ts, e, h, he => by
    by_cases h1 : a < 0 ∨ 256 ≤ a ∨ ¬ long r
    · rw [chk_bad_open h1] at h; cases h
    by_cases h2 : c < e + r
    · rw [chk_bad_sum h1 h2] at h; cases h
    rw [chk_go h1 h2] at h
    obtain ⟨i1, i2, i3⟩ := chkFrom_good ts (e + r) h (by omega)
    have hl : long r := Decidable.of_not_not fun e => h1 (.inr (.inr e))
    have ha : 0 ≤ a ∧ a ≤ 255 := ⟨by have := fun e => h1 (.inl e); omega, by have := fun e => h1 (.inr (.inl e)); omega⟩
    have hp : ∀ k, pre ((a, r) :: ts) (k + 1) = r + pre ts k := by
      intro k
      induction k with
      | zero => simp [pre, tR]
      | succ k ih => rw [pre_succ, ih, pre_succ]; show _ + tR ts k = _; omega
    refine ⟨fun k hk => ?_, fun k hk => ?_, fun k hk => ?_⟩
    · cases k with
      | zero => exact ha
      | succ k => exact i1 k (by simpa using hk)
    · cases k with
      | zero => exact hl
      | succ k => exact i2 k (by simpa using hk)
    · cases k with
      | zero => simp [pre]; exact he
      | succ k =>
        have := i3 k (by simpa using hk)
        rw [hp]; omega
theorem chk_good {b c : Int} {ts : List (Int × Int)} (h : chkV b c ts = 0) : Good b c ts := by
  unfold chkV at h
  split at h
  · cases h
  · split at h
    · cases h
    · rename_i h1 h2
      have hl : long c := Decidable.of_not_not fun e => h2 (.inr (.inl e))
      have hb : ¬ b < 0 := fun e => h2 (.inr (.inr (.inl e)))
      have hb2 : ¬ 1099511627776 < b := fun e => h2 (.inr (.inr (.inr e)))
      have h0 : ts.length ≠ 0 := fun e => h2 (.inl e)
      have hl1 := hl.1
      obtain ⟨i1, i2, i3⟩ := chkFrom_good ts 0 h (by omega)
      exact ⟨by omega, by omega, hl.1, hl.2, by omega, by omega, i1, i2, by have := i3 ts.length (Nat.le_refl _); omega⟩

end Go.Proofs.Ytllmfkodgalklaa
