/- The reference's Check, phase and Turn. -/
import Derived.Test.YtpdfgdjomlogbaaGtPlain
namespace Go.Proofs.Ytpdfgdjomlogbaa
open Go.RowKit Go.Joins

/-- A list of the reference's in its box. -/
def RB (W : World) (k : Nat) (b c : Int) (sl : Value) : Prop := W.heap[k]? = some (.cells #[.int .i64 b, .int .i64 c, sl] 30 (0, 0))
theorem RB.new (w : World) (b c : Int) (sl : Value) : RB (w.alloc (.cells #[.int .i64 b, .int .i64 c, sl] 30)) w.heap.size b c sl := heap_alloc_one w _
theorem RB.below {w W : World} {k : Nat} {b c : Int} {sl : Value} (h : RB w k b c sl) (hb : Below w.heap.size w W) : RB W k b c sl := (hb.block k (lt_of_heap h)).trans h
theorem RB.cells {w : World} {k : Nat} {b c : Int} {sl : Value} (h : RB w k b c sl) : w.cell? ⟨k, 0, none⟩ = some (.int .i64 b) ∧ w.cell? ⟨k, 1, none⟩ = some (.int .i64 c) ∧ w.cell? ⟨k, 2, none⟩ = some sl := ⟨cell_of_row _ _ _ _ _ _ h, cell_of_row _ _ _ _ _ _ h, cell_of_row _ _ _ _ _ _ h⟩
def RChkRel (b c : Int) (sl : Value) (ts : List (Int × Int)) (w : World) (ev kv : Value) (wr : World) : Prop :=
  ∃ k : Nat, k ≤ ts.length ∧ kv = .int .i64 (k : Int) ∧ ev = .int .i64 (pre ts k) ∧ 0 ≤ pre ts k ∧ pre ts k ≤ c ∧ chkFrom c (pre ts k) (ts.drop k) = chkFrom c 0 ts ∧ RB wr w.heap.size b c sl ∧ Below w.heap.size w wr
set_option maxHeartbeats 1000000 in
theorem rcheck_some (b c : Int) (bk o cap : Nat) (ts : List (Int × Int)) (w : World) (hr : RdT w bk o ts) (h0 : 0 < ts.length) (h64 : ts.length ≤ 64) (hi : Ints ts) (hc : long c) (hb0 : 0 ≤ b) (hb1 : b ≤ 1099511627776) :
    Calls Try.prog 11 #[LV b c (.slice (some ⟨bk, o, none⟩) ts.length cap)] w fun e w' => e = .returned (.int .i64 (chkFrom c 0 ts)) ∧ Below w.heap.size w w' := by
  obtain ⟨n, hn⟩ : ∃ n, n = ts.length := ⟨_, rfl⟩
  rw [← hn] at h64 h0 ⊢
  have d1 : decide (64 < (n : Int)) = false := decide_eq_false (by omega)
  have d2 : ((n : Int) == 0) = false := by rw [beq_eq_false_iff_ne]; omega
  have hc1 := hc.1
  have hc2 := hc.2
  have d3 : decide (b < 0) = false := decide_eq_false (by omega)
  have d4 : decide (1099511627776 < b) = false := decide_eq_false (by omega)
  have d5 : decide (c < 1) = false := decide_eq_false (by omega)
  have d6 : decide (1073741824 < c) = false := decide_eq_false (by omega)
  have Hn := Lib.hid hn
  have Hr := Lib.hid hr
  have Hi := Lib.hid hi
  have Hc := Lib.hid hc
  obtain ⟨l0, l1, l2⟩ := (RB.new w b c (.slice (some ⟨bk, o, none⟩) n cap)).cells
  clear hn hr hi hc hb0 hb1 hc1 hc2
  go_enter Try.func11, Try.ntmps11
  go_wp2_with fail
  go_loopw [3, 37] (fun pv kv wr => RChkRel b c (.slice (some ⟨bk, o, none⟩) n cap) ts w pv kv wr) (fun _ kv _ => n - (intOf kv).toNat)
  case atStart => exact ⟨0, by omega, rfl, rfl, by simp [pre], by have := Hc.out.1; simp [pre]; omega, rfl, RB.new w _ _ _, bAl (bRef w) _⟩
  case round =>
    clear l0 l1 l2
    obtain ⟨k, hk, rfl, rfl, hp0, hp1, hch, hlb, hb⟩ := hrel
    rw [← Hn.out] at hk
    have HB := Lib.hid hb
    have HLB := Lib.hid hlb
    obtain ⟨l0, l1, l2⟩ := hlb.cells
    have hsz := lt_of_heap hlb
    clear hb hlb
    rcases Nat.lt_or_ge k n with g | g
    · have hd : decide ((k : Int) < (n : Int)) = true := decide_eq_true (by omega)
      rw [drop_cons (by rw [← Hn.out]; exact g)] at hch
      obtain ⟨c1, c2⟩ := (Hr.out.below HB.out).2 k (by rw [← Hn.out]; exact g)
      have hin := Hi.out k (by rw [← Hn.out]; exact g)
      have hps := pre_succ ts k
      obtain ⟨a, ha⟩ : ∃ a, a = tA ts k := ⟨_, rfl⟩
      obtain ⟨r, hr⟩ : ∃ r, r = tR ts k := ⟨_, rfl⟩
      obtain ⟨p, hp⟩ : ∃ p, p = pre ts k := ⟨_, rfl⟩
      rw [← ha] at c1 hch hin
      rw [← hr] at c2 hch hin hps
      rw [← hp] at hch hp0 hp1 hps ⊢
      have HC := Lib.hid hch
      have two := fun x y => two_cells wr x y 60
      have hcc := Hc.out.2
      have HPS := Lib.hid hps
      have HP := Lib.hid hp
      have l1' := (HLB.out.below (bAl (bRef wr) (.cells #[.int .i64 a, .int .i64 r] 60))).cells.2.1
      clear hch ha hr hp hin hps
      by_cases h1 : a < 0
      · have e1 : decide (a < 0) = true := decide_eq_true h1
        have HE : Hid (chkFrom c 0 ts = 1) := Lib.hid (by rw [← HC.out]; exact chk_bad_open (.inl h1))
        clear h1
        go_wp2_with fail
        go_ret
        exact ⟨by rw [HE.out]; rfl, bAl HB.out _⟩
      have e1 : decide (a < 0) = false := decide_eq_false h1
      by_cases h2 : 255 < a
      · have e2 : decide (255 < a) = true := decide_eq_true h2
        have HE : Hid (chkFrom c 0 ts = 1) := Lib.hid (by rw [← HC.out]; exact chk_bad_open (.inr (.inl (by omega))))
        clear h1 h2
        go_wp2_with fail
        go_ret
        exact ⟨by rw [HE.out]; rfl, bAl HB.out _⟩
      have e2 : decide (255 < a) = false := decide_eq_false h2
      by_cases h3 : r < 1
      · have e3 : decide (r < 1) = true := decide_eq_true h3
        have HE : Hid (chkFrom c 0 ts = 1) := Lib.hid (by rw [← HC.out]; exact chk_bad_open (.inr (.inr (fun h => by have := h.1; omega))))
        clear h1 h2 h3
        go_wp2_with fail
        go_ret
        exact ⟨by rw [HE.out]; rfl, bAl HB.out _⟩
      have e3 : decide (r < 1) = false := decide_eq_false h3
      by_cases h4 : 1073741824 < r
      · have e4 : decide (1073741824 < r) = true := decide_eq_true h4
        have HE : Hid (chkFrom c 0 ts = 1) := Lib.hid (by rw [← HC.out]; exact chk_bad_open (.inr (.inr (fun h => by have := h.2; omega))))
        clear h1 h2 h3 h4
        go_wp2_with fail
        go_ret
        exact ⟨by rw [HE.out]; rfl, bAl HB.out _⟩
      have e4 : decide (1073741824 < r) = false := decide_eq_false h4
      have hlr : long r := ⟨by omega, by omega⟩
      have e5 : wrap64 (p + r) = p + r := by unfold wrap64; omega
      by_cases h5 : c < p + r
      · have e6 : decide (c < p + r) = true := decide_eq_true h5
        have HE : Hid (chkFrom c 0 ts = 61) := Lib.hid (by rw [← HC.out]; exact chk_bad_sum (fun h => h.elim h1 (fun h => h.elim (by omega) (fun h => h hlr))) h5)
        clear h1 h2 h3 h4 h5 hlr
        go_wp2_with fail
        go_ret
        exact ⟨by rw [HE.out]; rfl, bAl HB.out _⟩
      · have e6 : decide (c < p + r) = false := decide_eq_false h5
        have HE : Hid (chkFrom c (p + r) (ts.drop (k + 1)) = chkFrom c 0 ts) := Lib.hid (by rw [← HC.out]; exact (chk_go (fun h => h.elim h1 (fun h => h.elim (by omega) (fun h => h hlr))) h5).symm)
        have HQ : Hid (0 ≤ p + r ∧ p + r ≤ c) := Lib.hid ⟨by omega, by omega⟩
        clear h1 h2 h3 h4 h5 hlr
        go_wp2_with fail
        go_roundw
        case rel => exact ⟨k + 1, by rw [← Hn.out]; omega, by go_num, by rw [HPS.out, e5], by rw [HPS.out]; exact HQ.out.1, by rw [HPS.out]; exact HQ.out.2, by rw [HPS.out]; exact HE.out, HLB.out.below (bAl (bRef wr) _), bAl HB.out _⟩
        case measure => simp [intOf]; omega
    · have hd : decide ((k : Int) < (n : Int)) = false := decide_eq_false (by omega)
      have HE : Hid (chkFrom c 0 ts = 0) := Lib.hid (by rw [← hch, List.drop_eq_nil_of_le (by rw [← Hn.out]; exact g)]; rfl)
      clear hch
      go_wp2_with fail
      go_ret
      exact ⟨by rw [HE.out]; rfl, HB.out⟩
theorem rcheck_head (b c : Int) (p : Option Addr) (n cap : Nat) (w : World) (r : Int) (hr : (if 64 < n then (4 : Int) else if n = 0 ∨ ¬ long c ∨ b < 0 ∨ 1099511627776 < b then 1 else 0) = r) (h0 : r ≠ 0) :
    Calls Try.prog 11 #[LV b c (.slice p n cap)] w fun e w' => e = .returned (.int .i64 r) ∧ Below w.heap.size w w' := by
  have HB := Lib.hid (bAl (bRef w) (.cells #[.int .i64 b, .int .i64 c, .slice p n cap] 30))
  by_cases h1 : 64 < n
  · rw [if_pos h1] at hr
    subst hr
    have d1 : decide (64 < (n : Int)) = true := decide_eq_true (by omega)
    clear h1 h0
    go_enter Try.func11, Try.ntmps11
    go_wp2_with fail
    go_ret
    exact ⟨rfl, HB.out⟩
  rw [if_neg h1] at hr
  have d1 : decide (64 < (n : Int)) = false := decide_eq_false (by omega)
  by_cases h2 : n = 0
  · rw [if_pos (.inl h2)] at hr
    subst hr
    have d2 : ((n : Int) == 0) = true := by rw [beq_iff_eq]; omega
    clear h1 h0 h2
    go_enter Try.func11, Try.ntmps11
    go_wp2_with fail
    go_ret
    exact ⟨rfl, HB.out⟩
  have d2 : ((n : Int) == 0) = false := by rw [beq_eq_false_iff_ne]; omega
  by_cases h3 : c < 1
  · rw [if_pos (.inr (.inl (fun h => by have := h.1; omega)))] at hr
    subst hr
    have d3 : decide (c < 1) = true := decide_eq_true h3
    clear h1 h0 h2 h3
    go_enter Try.func11, Try.ntmps11
    go_wp2_with fail
    go_ret
    exact ⟨rfl, HB.out⟩
  have d3 : decide (c < 1) = false := decide_eq_false h3
  by_cases h4 : 1073741824 < c
  · rw [if_pos (.inr (.inl (fun h => by have := h.2; omega)))] at hr
    subst hr
    have d4 : decide (1073741824 < c) = true := decide_eq_true h4
    clear h1 h0 h2 h3 h4
    go_enter Try.func11, Try.ntmps11
    go_wp2_with fail
    go_ret
    exact ⟨rfl, HB.out⟩
  have d4 : decide (1073741824 < c) = false := decide_eq_false h4
  by_cases h5 : b < 0
  · rw [if_pos (.inr (.inr (.inl h5)))] at hr
    subst hr
    have d5 : decide (b < 0) = true := decide_eq_true h5
    clear h1 h0 h2 h3 h4 h5
    go_enter Try.func11, Try.ntmps11
    go_wp2_with fail
    go_ret
    exact ⟨rfl, HB.out⟩
  have d5 : decide (b < 0) = false := decide_eq_false h5
  by_cases h6 : 1099511627776 < b
  · rw [if_pos (.inr (.inr (.inr h6)))] at hr
    subst hr
    have d6 : decide (1099511627776 < b) = true := decide_eq_true h6
    clear h1 h0 h2 h3 h4 h5 h6
    go_enter Try.func11, Try.ntmps11
    go_wp2_with fail
    go_ret
    exact ⟨rfl, HB.out⟩
  rw [if_neg (fun h => h.elim h2 (fun h => h.elim (fun h => h ⟨by omega, by omega⟩) (fun h => h.elim h5 h6)))] at hr
  exact absurd hr.symm h0
theorem rcheck_any (b c : Int) (sl : Value) (ts : List (Int × Int)) (w : World) (h : TArg w sl ts) :
    Calls Try.prog 11 #[LV b c sl] w fun e w' => e = .returned (.int .i64 (chkV b c ts)) ∧ Below w.heap.size w w' := by
  by_cases h1 : 64 < ts.length
  · obtain ⟨p, cap, rfl⟩ := h.slice
    unfold chkV
    rw [if_pos h1]
    exact rcheck_head b c p _ cap w 4 (by rw [if_pos h1]) (by decide)
  · by_cases h2 : ts.length = 0 ∨ ¬ long c ∨ b < 0 ∨ 1099511627776 < b
    · obtain ⟨p, cap, rfl⟩ := h.slice
      unfold chkV
      rw [if_neg h1, if_pos h2]
      exact rcheck_head b c p _ cap w 1 (by rw [if_neg h1, if_pos h2]) (by decide)
    · have h0 : 0 < ts.length := Nat.pos_of_ne_zero fun e => h2 (.inl e)
      obtain ⟨bk, o, cap, rfl, hc, hr⟩ := h.at h0
      unfold chkV
      rw [if_neg h1, if_neg h2]
      have hl : long c := Decidable.of_not_not fun e => h2 (.inr (.inl e))
      exact rcheck_some b c bk o cap ts w hr h0 (by omega) h.1 hl (by have := fun e => h2 (.inr (.inr (.inl e))); omega) (by have := fun e => h2 (.inr (.inr (.inr e))); omega)

end Go.Proofs.Ytpdfgdjomlogbaa
