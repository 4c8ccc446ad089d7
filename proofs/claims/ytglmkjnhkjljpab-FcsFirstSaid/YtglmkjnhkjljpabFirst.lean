/- FcsFirst: what Hit finds is the first bit that makes the check fit. -/
import Derived.Test.YtglmkjnhkjljpabHits
namespace Go.Proofs.Ytglmkjnhkjljpab
open Go.RowKit Go.Joins

theorem first_long (p : Option Addr) (n c : Nat) (hn : 30 < n) (w : World) :
    Calls Try.prog 7 #[.slice p n c] w fun e w' => e = .returned (.bool true) ∧ Below w.heap.size w w' := by
  have HH := head_ret
  go_enter Try.func7, Try.ntmps7
  go_wp2_with (go_at_call 9; (with_reducible refine (HH.go _).mono ?_); rintro e w1 ⟨rfl, hb⟩)
  go_ret
  exact ⟨rfl, hb⟩

theorem hit_nothing {v : Value} {xs : List Nat} {w : World} (h : BArg w v xs) (hl : xs.length ≤ 140737488355000) (hn : hitOf xs = none) :
    Calls Try.prog 18 #[v] w fun e w' => e = .returned (.tuple #[.int .i64 0, .int .i64 0, .bool false]) ∧ Below w.heap.size w w' := by
  have := hit_any h hl
  rw [hn] at this
  exact this
theorem hit_this {v : Value} {xs : List Nat} {w : World} {j : Nat} (h : BArg w v xs) (hl : xs.length ≤ 140737488355000) (hn : hitOf xs = some j) (hj : j < 8 * xs.length) :
    Calls Try.prog 18 #[v] w fun e w' => e = .returned (.tuple #[.int .i64 (((8 * xs.length - 1 - j : Nat) : Int) / 8), .int .i64 (((8 * xs.length - 1 - j : Nat) : Int) % 8), .bool true]) ∧ Below w.heap.size w w' := by
  refine (hit_any h hl).mono fun e w' hh => ?_
  obtain ⟨h1, h2⟩ := hh
  rw [hn] at h1
  refine ⟨h1.trans ?_, h2⟩
  show Ending.returned (.tuple #[.int .i64 ((xs.length : Int) - 1 - ((j / 8 : Nat) : Int)), .int .i64 (7 - ((j % 8 : Nat) : Int)), .bool true]) = _
  rw [show (xs.length : Int) - 1 - ((j / 8 : Nat) : Int) = ((8 * xs.length - 1 - j : Nat) : Int) / 8 by omega, show 7 - ((j % 8 : Nat) : Int) = ((8 * xs.length - 1 - j : Nat) : Int) % 8 by omega]

theorem first_short (p : Option Addr) (n c : Nat) (xs : List Nat) (w : World) (h : BArg w (.slice p n c) xs) (hl : xs.length = n) (hn : n < 4) :
    Calls Try.prog 7 #[.slice p n c] w fun e w' => e = .returned (.bool true) ∧ Below w.heap.size w w' := by
  have HH := head_ret
  have H := Lib.hid h
  have L1 := Lib.hid (show xs.length ≤ 140737488355000 by omega)
  have L2 := Lib.hid (show hitOf xs = none by unfold hitOf; rw [if_pos (by omega)])
  clear h hl
  go_enter Try.func7, Try.ntmps7
  go_wp2_with (first
    | (go_at_call 9; (with_reducible refine (HH.go _).mono ?_); rintro e w1 ⟨rfl, hb⟩; have HB := Lib.hid hb; have HA := Lib.hid (H.out.below hb); clear hb)
    | (go_at_call 18; (with_reducible refine (hit_nothing HA.out L1.out L2.out).mono ?_); rintro e w2 ⟨rfl, hb⟩; replace HB := Lib.hid (bTr HB.out hb); clear hb))
  go_loopw [6, 7] (fun fv av wr => fv = .bool false ∧ av = .int .i64 0 ∧ Below w.heap.size w wr) (fun _ _ _ => 0)
  case atStart => exact ⟨rfl, rfl, HB.out⟩
  case round =>
    clear HB
    obtain ⟨rfl, rfl, hb⟩ := hrel
    have HB := Lib.hid hb
    clear hb
    rcases Nat.eq_zero_or_pos n with h0 | h0
    · subst h0
      go_wp2_with fail
      go_ret
      exact ⟨rfl, HB.out⟩
    · go_wp2_with fail
      go_ret
      exact ⟨rfl, HB.out⟩

theorem first_opens (p : Option Addr) (n c : Nat) (xs : List Nat) (w : World) (h : BArg w (.slice p n c) xs) (hl : xs.length = n) (hn : 4 ≤ n) (hn2 : n ≤ 30) (ho : Crc.opens xs = true) :
    Calls Try.prog 7 #[.slice p n c] w fun e w' => e = .returned (.bool true) ∧ Below w.heap.size w w' := by
  have HH := head_ret
  have H := Lib.hid h
  have L1 := Lib.hid (show xs.length ≤ 140737488355000 by omega)
  have L2 : Hid (hitOf xs = none) := Lib.hid (by
    rw [opens_long (by omega), beq_iff_eq] at ho
    unfold hitOf
    rw [if_neg (by omega), ho]
    cases e : lastHit 0 (8 * xs.length) with
    | none => rfl
    | some j => exact absurd (lastHit_some _ e).2.1 (Crc.T_high_ne j))
  have HO := Lib.hid ho
  clear h hl ho
  go_enter Try.func7, Try.ntmps7
  go_wp2_with (first
    | (go_at_call 9; (with_reducible refine (HH.go _).mono ?_); rintro e w1 ⟨rfl, hb⟩; have HB := Lib.hid hb; have HA := Lib.hid (H.out.below hb); clear hb)
    | (go_at_call 18; (with_reducible refine (hit_nothing HA.out L1.out L2.out).mono ?_); rintro e w2 ⟨rfl, hb⟩; replace HB := Lib.hid (bTr HB.out hb); replace HA := Lib.hid (HA.out.below hb); clear hb))
  go_loopw [6, 7] (fun fv av wr => fv = .bool false ∧ av = .int .i64 0 ∧ Below w.heap.size w wr) (fun _ _ _ => 0)
  case atStart => exact ⟨rfl, rfl, HB.out⟩
  case round =>
    clear HB HA
    obtain ⟨rfl, rfl, hb⟩ := hrel
    have HB := Lib.hid hb
    clear hb
    go_wp2_with (go_at_call 17; (with_reducible refine (ropens_ret (H.out.below HB.out) L1.out true HO.out).mono ?_); rintro e w4 ⟨rfl, hb⟩; replace HB := Lib.hid (bTr HB.out hb); clear hb)
    go_ret
    exact ⟨rfl, HB.out⟩

def FirstRel (w : World) (n Q : Nat) (ok : Bool) (fv av : Value) (wr : World) : Prop :=
  ∃ q : Nat, q ≤ 8 * n ∧ av = .int .i64 (q : Int) ∧ Below w.heap.size w wr ∧ ((fv = .bool false ∧ q ≤ Q) ∨ (fv = .bool true ∧ ok = true))

section
variable {n q Q : Nat} {I K : Int} {ok : Bool} {xs : List Nat}
theorem first_next (hq2 : q < 8 * n) (hqQ : q ≤ Q) (hx : Crc.opens (Crc.flip xs q) = false) (hyes : ok = true → Q < 8 * n ∧ Crc.opens (Crc.flip xs Q) = true ∧ I = (Q : Int) / 8 ∧ K = (Q : Int) % 8) (hnone : ok = false → Q = 8 * n ∧ I = 0 ∧ K = 0) : q + 1 ≤ Q := by
  rcases Nat.lt_or_ge q Q with g | g
  · omega
  · obtain rfl : q = Q := by omega
    cases ok
    · have := (hnone rfl).1; omega
    · rw [(hyes rfl).2.1] at hx; cases hx
theorem first_here (hq2 : q < 8 * n) (hqQ : q ≤ Q) (hx : Crc.opens (Crc.flip xs q) = true) (hno : ∀ q, q < Q → Crc.opens (Crc.flip xs q) = false) (hyes : ok = true → Q < 8 * n ∧ Crc.opens (Crc.flip xs Q) = true ∧ I = (Q : Int) / 8 ∧ K = (Q : Int) % 8) (hnone : ok = false → Q = 8 * n ∧ I = 0 ∧ K = 0) : ok = true ∧ I = (q : Int) / 8 ∧ K = (q : Int) % 8 := by
  rcases Nat.lt_or_ge q Q with g | g
  · rw [hno q g] at hx; cases hx
  · obtain rfl : q = Q := by omega
    cases ok
    · have := (hnone rfl).1; omega
    · exact ⟨rfl, (hyes rfl).2.2⟩
theorem first_none (hqQ : 8 * n ≤ Q) (hyes : ok = true → Q < 8 * n ∧ Crc.opens (Crc.flip xs Q) = true ∧ I = (Q : Int) / 8 ∧ K = (Q : Int) % 8) (hnone : ok = false → Q = 8 * n ∧ I = 0 ∧ K = 0) : ok = false ∧ I = 0 ∧ K = 0 := by
  cases ok
  · exact ⟨rfl, (hnone rfl).2⟩
  · have := (hyes rfl).1; omega
end

set_option maxHeartbeats 4000000 in
set_option maxRecDepth 20000 in
theorem first_main (p : Option Addr) (n c Q : Nat) (I K : Int) (ok : Bool) (xs : List Nat) (w : World) (h : BArg w (.slice p n c) xs) (hl : xs.length = n) (hn : 4 ≤ n) (hn2 : n ≤ 30) (ho : Crc.opens xs = false)
    (HIT : ∀ w', BArg w' (.slice p n c) xs → Calls Try.prog 18 #[.slice p n c] w' fun e w2 => e = .returned (.tuple #[.int .i64 I, .int .i64 K, .bool ok]) ∧ Below w'.heap.size w' w2)
    (hQ : Q ≤ 8 * n) (hno : ∀ q, q < Q → Crc.opens (Crc.flip xs q) = false) (hyes : ok = true → Q < 8 * n ∧ Crc.opens (Crc.flip xs Q) = true ∧ I = (Q : Int) / 8 ∧ K = (Q : Int) % 8) (hnone : ok = false → Q = 8 * n ∧ I = 0 ∧ K = 0) :
    Calls Try.prog 7 #[.slice p n c] w fun e w' => e = .returned (.bool true) ∧ Below w.heap.size w w' := by
  have HH := head_ret
  have H := Lib.hid h
  have L1 := Lib.hid (show xs.length ≤ 140737488355000 by omega)
  have L2 := Lib.hid (show xs.length ≤ 140737488355328 by omega)
  have L3 := Lib.hid hl
  have HO := Lib.hid ho
  have HI := Lib.hid HIT
  have HNO := Lib.hid hno
  have HYES := Lib.hid hyes
  have HNONE := Lib.hid hnone
  clear h hl ho HIT hno hyes hnone
  go_enter Try.func7, Try.ntmps7
  go_wp2_with (first
    | (go_at_call 9; (with_reducible refine (HH.go _).mono ?_); rintro e w1 ⟨rfl, hb⟩; have HB := Lib.hid hb; have HA := Lib.hid (H.out.below hb); clear hb)
    | (go_at_call 18; (with_reducible refine (HI.out _ HA.out).mono ?_); rintro e w2 ⟨rfl, hb⟩; replace HB := Lib.hid (bTr HB.out hb); clear HA hb))
  go_loopw [6, 7] (fun fv av wr => FirstRel w n Q ok fv av wr) (fun _ av _ => 8 * n - (intOf av).toNat)
  case atStart => exact ⟨0, by omega, rfl, HB.out, .inl ⟨rfl, by omega⟩⟩
  case round =>
    clear HB
    obtain ⟨q, hq, rfl, hb, hf⟩ := hrel
    have HB := Lib.hid hb
    clear hb
    rcases hf with ⟨rfl, hqQ⟩ | ⟨rfl, hok⟩
    · rcases Nat.lt_or_ge q (8 * n) with hq2 | hq2
      · have hd : decide ((q : Int) < 8 * (n : Int)) = true := decide_eq_true (by omega)
        have hqn : q / 8 < n := by omega
        obtain ⟨x, hxb⟩ : ∃ x, Crc.opens (Crc.flip xs q) = x := ⟨_, rfl⟩
        have HXB := Lib.hid hxb
        clear hxb
        have HP := Lib.hid (show 0 ≤ 1 by omega)
        cases x
        · go_wp2_with (first
            | (go_at_call 17; have _t := HP; (with_reducible refine (ropens_ret (H.out.below HB.out) L1.out false HO.out).mono ?_); rintro e w4 ⟨rfl, hb⟩; replace HB := Lib.hid (bTr HB.out hb); clear hb _t HP)
            | (go_at_call 10; (with_reducible refine (copy_at (H.out.below HB.out) L2.out L3.out).mono ?_); rintro e w5 ⟨g4, c4, rfl, hc4, hown⟩; have HW := Lib.hid hown; have hcell := HW.out.cell (k := q / 8) (by rw [L3.out]; exact hqn); have hfr := HW.out.frozen (q / 8); have hx := Crc.getD_byte HW.out.2.2.1 (q / 8); clear hown; obtain ⟨x, hxe⟩ : ∃ x, x = xs.getD (q / 8) 0 := ⟨_, rfl⟩; rw [← hxe] at hcell hx; have Hxe := Lib.hid hxe; clear hxe; have hxo := u8_flip x q hx; have hlt := Crc.xor_lt8 x (2 ^ (q % 8)) hx (pow8_lt q); obtain ⟨y, hy⟩ : ∃ y, y = x ^^^ 2 ^ (q % 8) := ⟨_, rfl⟩; rw [← hy] at hxo hlt; have Hy := Lib.hid hy; clear hy)
            | (go_at_call 17; (with_reducible refine (ropens_ret (own_eq (HW.out.set hlt) (flip_eq Hy.out Hxe.out)).arg (by rw [Crc.flip_len]; exact L1.out) false HXB.out).mono ?_); rintro e w6 ⟨rfl, hb⟩; replace HB := Lib.hid (bTr (bTr HB.out (HW.out.set (k := q / 8) hlt).bel) hb); clear hb))
          go_roundw
          case rel => exact ⟨q + 1, by omega, by go_num, HB.out, .inl ⟨rfl, first_next hq2 hqQ HXB.out HYES.out HNONE.out⟩⟩
          case measure => simp [intOf]; omega
        · obtain ⟨hok, hI, hK⟩ := first_here hq2 hqQ HXB.out HNO.out HYES.out HNONE.out
          subst hok hI hK
          go_wp2_with (first
            | (go_at_call 17; have _t := HP; (with_reducible refine (ropens_ret (H.out.below HB.out) L1.out false HO.out).mono ?_); rintro e w4 ⟨rfl, hb⟩; replace HB := Lib.hid (bTr HB.out hb); clear hb _t HP)
            | (go_at_call 10; (with_reducible refine (copy_at (H.out.below HB.out) L2.out L3.out).mono ?_); rintro e w5 ⟨g4, c4, rfl, hc4, hown⟩; have HW := Lib.hid hown; have hcell := HW.out.cell (k := q / 8) (by rw [L3.out]; exact hqn); have hfr := HW.out.frozen (q / 8); have hx := Crc.getD_byte HW.out.2.2.1 (q / 8); clear hown; obtain ⟨x, hxe⟩ : ∃ x, x = xs.getD (q / 8) 0 := ⟨_, rfl⟩; rw [← hxe] at hcell hx; have Hxe := Lib.hid hxe; clear hxe; have hxo := u8_flip x q hx; have hlt := Crc.xor_lt8 x (2 ^ (q % 8)) hx (pow8_lt q); obtain ⟨y, hy⟩ : ∃ y, y = x ^^^ 2 ^ (q % 8) := ⟨_, rfl⟩; rw [← hy] at hxo hlt; have Hy := Lib.hid hy; clear hy)
            | (go_at_call 17; (with_reducible refine (ropens_ret (own_eq (HW.out.set hlt) (flip_eq Hy.out Hxe.out)).arg (by rw [Crc.flip_len]; exact L1.out) true HXB.out).mono ?_); rintro e w6 ⟨rfl, hb⟩; replace HB := Lib.hid (bTr (bTr HB.out (HW.out.set (k := q / 8) hlt).bel) hb); clear hb))
          go_roundw
          case rel => exact ⟨q + 1, by omega, by go_num, HB.out, .inr ⟨rfl, rfl⟩⟩
          case measure => simp [intOf]; omega
      · obtain rfl : q = 8 * n := by omega
        obtain ⟨hok, hI, hK⟩ := first_none hqQ HYES.out HNONE.out
        subst hok hI hK
        go_wp2_with fail
        go_ret
        exact ⟨rfl, HB.out⟩
    · subst hok
      rcases Nat.lt_or_ge q (8 * n) with hq2 | hq2
      · go_wp2_with fail
        go_ret
        exact ⟨rfl, HB.out⟩
      · go_wp2_with fail
        go_ret
        exact ⟨rfl, HB.out⟩

theorem first_walk (v : Value) (xs : List Nat) (w : World) (h : BArg w v xs) :
    Calls Try.prog 7 #[v] w fun e w' => e = .returned (.bool true) ∧ Below w.heap.size w w' := by
  obtain ⟨p, c, rfl⟩ := h.slice
  rcases Nat.lt_or_ge 30 xs.length with hn | hn
  · exact first_long p _ c hn w
  rcases Nat.lt_or_ge xs.length 4 with h4 | h4
  · exact first_short p _ c xs w h rfl h4
  cases ho : Crc.opens xs
  · have hw := ho
    rw [opens_long h4, beq_eq_false_iff_ne] at hw
    have hh : hitOf xs = lastHit (Crc.wrong xs) (8 * xs.length) := by unfold hitOf; rw [if_neg (by omega)]
    cases e : hitOf xs with
    | none =>
      refine first_main p _ c (8 * xs.length) 0 0 false xs w h rfl h4 hn ho (fun w' hb => hit_nothing hb (by omega) e) (Nat.le_refl _) (fun q hq => ?_) (fun hc => by cases hc) (fun _ => ⟨rfl, rfl, rfl⟩)
      rw [hh] at e
      rw [Crc.opens_flip h4 hq, beq_eq_false_iff_ne]
      exact fun g => lastHit_none _ e _ (by omega) g.symm
    | some j =>
      have e' := e
      rw [hh] at e'
      obtain ⟨j1, j2, j3⟩ := lastHit_some _ e'
      refine first_main p _ c (8 * xs.length - 1 - j) _ _ true xs w h rfl h4 hn ho (fun w' hb => hit_this hb (by omega) e j1) (by omega) (fun q hq => ?_) (fun _ => ⟨by omega, ?_, rfl, rfl⟩) (fun hc => by cases hc)
      · rw [Crc.opens_flip h4 (by omega), beq_eq_false_iff_ne]
        exact fun g => j3 _ (by omega) (by omega) g.symm
      · rw [Crc.opens_flip h4 (by omega), beq_iff_eq, show 8 * xs.length - 1 - (8 * xs.length - 1 - j) = j by omega]
        exact j2.symm
  · exact first_opens p _ c xs w h rfl h4 hn ho

end Go.Proofs.Ytglmkjnhkjljpab
