/- Package seqr: match, move, vector. -/
import Derived.Test.YtnkblihdgfhcdaaSqOps
import Derived.Test.YtnkblihdgfhcdaaSqOnes
namespace Go.Proofs.Ytnkblihdgfhcdaa
open Go.RowKit Go.Joins

section
variable {w : World} {b : Nat} {m : SQ}
theorem match_again (h : Sq w b m) (seq : Int) (hs : seq = m.last) : Calls Try.prog 43 #[.pointer (some ⟨b, 0, none⟩), .int .i64 seq] w fun e w' => e = .returned (.int .i64 1) ∧ w' = w := by
  have k := h.c.k4
  have d : (seq == m.last) = true := by simp [hs]
  clear h hs
  go_enter Try.func43, Try.ntmps43
  go_wp2_with fail
  go_ret
  exact ⟨rfl, rfl⟩
theorem match_taken (h : Sq w b m) (seq : Int) (hs : seq ≠ m.last) : Calls Try.prog 43 #[.pointer (some ⟨b, 0, none⟩), .int .i64 seq] w fun e w' => e = .returned (.int .i64 0) ∧ Sq w' b { m with last := seq } ∧ ButB b w w' := by
  have k := h.c.k4
  have f4 := h.c.f4
  have d : (seq == m.last) = false := by simpa using hs
  have H := Lib.hid h
  clear h hs
  go_enter Try.func43, Try.ntmps43
  go_wp2_with fail
  go_ret
  exact ⟨rfl, H.out.set4 _, H.out.setB 4 _⟩

/-- The bits that fall out. -/
def outN (come len d : Nat) : Nat := come / 2 ^ (len - d) &&& (2 ^ d - 1)
def moveN (come d : Nat) : Nat := (come * 2 ^ d) % 18446744073709551616 ||| 1
def SQ.moved (m : SQ) (d : Nat) : SQ := { m with come := moveN m.come d, lost := wrap64 (m.lost + ((d : Int) - (ones (outN m.come m.len.toNat d) : Int))) }
theorem p2_lt {d : Nat} (h : d < 64) : 2 ^ d < 18446744073709551616 := by
  have := Nat.pow_lt_pow_right (a := 2) (by omega) h
  exact this
theorem sh1 {d : Nat} (h : d < 64) : IntKind.u64.wrap (2 ^ d) = ((2 ^ d : Nat) : Int) := by
  have := p2_lt h
  rw [show (2 : Int) ^ d = ((2 ^ d : Nat) : Int) by simp, u64m, Nat.mod_eq_of_lt this]
theorem sh2 {d : Nat} (h : d < 64) : IntKind.u64.wrap (((2 ^ d : Nat) : Int) - 1) = ((2 ^ d - 1 : Nat) : Int) := by
  have := p2_lt h
  have := Nat.two_pow_pos d
  rw [IntKind.wrap_u64]
  omega
theorem out_eq {come d K : Nat} (hc : come < 18446744073709551616) (h : d < 64) : bits .and .u64 ((come : Int) / 2 ^ K) (IntKind.u64.wrap (IntKind.u64.wrap (2 ^ d) - 1)) = ((come / 2 ^ K &&& (2 ^ d - 1) : Nat) : Int) := by
  have := p2_lt h
  rw [sh1 h, sh2 h, show (come : Int) / 2 ^ K = ((come / 2 ^ K : Nat) : Int) by simp]
  exact bits_and_u64_nat _ _ (Nat.lt_of_le_of_lt (Nat.div_le_self _ _) hc) (by omega)
theorem mv_eq {come d : Nat} : bits .or .u64 (IntKind.u64.wrap ((come : Int) * 2 ^ d)) 1 = ((moveN come d : Nat) : Int) := by
  rw [show (come : Int) * 2 ^ d = ((come * 2 ^ d : Nat) : Int) by simp, u64m]
  exact bits_or_u64_nat _ 1 (Nat.mod_lt _ (by decide)) (by omega)
set_option maxHeartbeats 4000000 in
theorem move_any (h : Sq w b m) (d : Nat) (h1 : 1 ≤ d) (h2 : (d : Int) < m.len) (h3 : m.len ≤ 64) (h4 : m.come < 18446744073709551616) : Calls Try.prog 45 #[.pointer (some ⟨b, 0, none⟩), .int .i64 (d : Int)] w fun e w' => e = .returned (.tuple #[]) ∧ Sq w' b (m.moved d) ∧ ButB b w w' := by
  obtain ⟨k0, k1, k2, k3, k4, k5, k6, k7, k8, k9, k10, k11, f3, f4, f5, f6, f7, f8, f9, f10, f11⟩ := h.c
  obtain ⟨n, hn⟩ : ∃ n : Nat, m.len = (n : Int) := ⟨m.len.toNat, by omega⟩
  have e0 : wrap64 (m.len - (d : Int)) = ((n - d : Nat) : Int) := by rw [hn] at h2 h3 ⊢; unfold wrap64; omega
  have eO := out_eq (K := n - d) h4 (show d < 64 by omega)
  have eM := mv_eq (come := m.come) (d := d)
  have hO : m.come / 2 ^ (n - d) &&& (2 ^ d - 1) < 18446744073709551616 := Nat.lt_of_le_of_lt Nat.and_le_left (Nat.lt_of_le_of_lt (Nat.div_le_self _ _) h4)
  have HM : Hid (m.moved d = { m with come := moveN m.come d, lost := wrap64 (m.lost + ((d : Int) - (ones (m.come / 2 ^ (n - d) &&& (2 ^ d - 1)) : Int))) }) := Lib.hid (by unfold SQ.moved outN; rw [hn]; rfl)
  obtain ⟨K, hK⟩ : ∃ K : Nat, n - d = K := ⟨_, rfl⟩
  rw [hK] at e0 eO hO HM
  have mK : min K 64 = K := by omega
  have md : min d 64 = d := by omega
  obtain ⟨O, hOe⟩ : ∃ O : Nat, m.come / 2 ^ K &&& (2 ^ d - 1) = O := ⟨_, rfl⟩
  rw [hOe] at eO hO HM
  obtain ⟨M, hMe⟩ : ∃ M : Nat, moveN m.come d = M := ⟨_, rfl⟩
  rw [hMe] at eM HM
  have HO := Lib.hid (fun W => ones_any O hO W)
  have hl := ones_lt O
  obtain ⟨q, hq⟩ : ∃ q : Nat, ones O = q := ⟨_, rfl⟩
  rw [hq] at hl HO HM
  have e5 : wrap64 ((d : Int) - (q : Int)) = (d : Int) - (q : Int) := by unfold wrap64; omega
  have H := Lib.hid h
  rw [hn] at e0 k1
  have HNN := Lib.hid hn
  clear hn h2
  clear h f4 f5 f6 f7 f8 f9 f10 k0 k2 k4 k5 k6 k7 k8 k9 k10 hOe hMe hq hO hl hK h1 h3 h4
  go_enter Try.func45, Try.ntmps45
  go_wp2_with fail
  go_quiet (fail)
  go_wp2_with fail
  go_region_with (go_at_call 46; (with_reducible refine (HO.out _).mono ?_); rintro e wx ⟨rfl, rfl⟩)
  all_goals go_wp2_with fail
  all_goals go_end0
  all_goals
    rw [HM.out]
    have HD : Sq (w.drewN (nq + 1)) b m := H.out
    exact ⟨rfl, (HD.set11 _).set3 M, ((ButB.of_below (bDr (bRef w) _)).trans (HD.setB 11 _)).trans ((HD.set11 _).setB 3 _)⟩

/-- By how much seq is ahead. -/
def ahead (seq last : Int) : Int := (seq - last + 32768) % 65536 - 32768
theorem ahead_le (seq last : Int) : -32768 ≤ ahead seq last ∧ ahead seq last ≤ 32767 := by unfold ahead; omega
structure SQ.Good (m : SQ) : Prop where
  ok : okQ m.way m.len m.reset
  come : m.come < 18446744073709551616
  l0 : 0 ≤ m.last
  l1 : m.last < 65536
  w : -9223372036854775808 ≤ m.when ∧ m.when < 9223372036854775808
theorem ah_eq {m : SQ} (g : m.Good) {seq : Int} (h0 : 0 ≤ seq) (h1 : seq < 65536) : IntKind.i16.wrap (wrap64 (seq - m.last)) = ahead seq m.last := by
  have := g.l0
  have := g.l1
  have e : wrap64 (seq - m.last) = seq - m.last := by unfold wrap64; omega
  rw [e]
  unfold ahead
  simp only [IntKind.wrap, IntKind.bits, IntKind.signed]
  simp
  omega
theorem vec_rogue (h : Sq w b m) (g : m.Good) (seq : Int) (h0 : 0 ≤ seq) (h1 : seq < 65536) (hd : m.len ≤ ahead seq m.last ∨ ahead seq m.last ≤ -m.len) : Calls Try.prog 44 #[.pointer (some ⟨b, 0, none⟩), .int .i64 seq] w fun e w' => e = .returned (.int .i64 2) ∧ w' = w := by
  obtain ⟨k0, k1, k2, k3, k4, k5, k6, k7, k8, k9, k10, k11, f3, f4, f5, f6, f7, f8, f9, f10, f11⟩ := h.c
  have e1 := ah_eq g h0 h1
  have e2 := ahead_le seq m.last
  generalize ahead seq m.last = D at *
  have e3 : wrap64 D = D := by unfold wrap64; omega
  obtain ⟨_, g1, g2, _, _⟩ := g.ok
  have e4 : wrap64 (-m.len) = -m.len := by unfold wrap64; omega
  clear h g f3 f4 f5 f6 f7 f8 f9 f10 f11 k0 k2 k5 k6 k7 k8 k9 k10 k11 h0 h1
  by_cases hd1 : m.len ≤ D
  · have d1 : decide (m.len ≤ D) = true := decide_eq_true hd1
    clear hd hd1 e2 g1 g2
    go_enter Try.func44, Try.ntmps44
    go_wp2_with fail
    go_ret
    exact ⟨rfl, rfl⟩
  · have d1 : decide (m.len ≤ D) = false := decide_eq_false hd1
    have d2 : decide (D ≤ -m.len) = true := decide_eq_true (by omega)
    clear hd hd1 e2 g1 g2
    go_enter Try.func44, Try.ntmps44
    go_wp2_with fail
    go_ret
    exact ⟨rfl, rfl⟩
theorem vec_taken (h : Sq w b m) (g : m.Good) (seq : Int) (h0 : 0 ≤ seq) (h1 : seq < 65536) (d : Nat) (hd0 : ahead seq m.last = (d : Int)) (hd1 : 1 ≤ d) (hd2 : (d : Int) < m.len) : Calls Try.prog 44 #[.pointer (some ⟨b, 0, none⟩), .int .i64 seq] w fun e w' => e = .returned (.int .i64 0) ∧ Sq w' b { m.moved d with last := seq } ∧ ButB b w w' := by
  obtain ⟨k0, k1, k2, k3, k4, k5, k6, k7, k8, k9, k10, k11, f3, f4, f5, f6, f7, f8, f9, f10, f11⟩ := h.c
  have e1 := ah_eq g h0 h1
  have HV := Lib.hid (move_any h d hd1 hd2 g.ok.2.2.1 g.come)
  obtain ⟨D, hD⟩ : ∃ D : Int, (d : Int) = D := ⟨_, rfl⟩
  rw [hD] at hd0 hd2 HV
  rw [hd0] at e1
  obtain ⟨_, g1, g2, _, _⟩ := g.ok
  have e3 : wrap64 D = D := by unfold wrap64; omega
  have e4 : wrap64 (-m.len) = -m.len := by unfold wrap64; omega
  have d1 : decide (m.len ≤ D) = false := decide_eq_false (by omega)
  have d2 : decide (D ≤ -m.len) = false := decide_eq_false (by omega)
  have d3 : decide (0 < D) = true := decide_eq_true (by omega)
  have H := Lib.hid h
  clear h g f3 f4 f5 f6 f7 f8 f9 f10 f11 k0 k2 k5 k6 k7 k8 k9 k10 k11 h0 h1 hd0 hd1 hd2 g1 g2 hD
  go_enter Try.func44, Try.ntmps44
  go_wp2_with (go_at_call 45; (with_reducible refine HV.out.mono ?_); rintro e w1 ⟨rfl, hm, hb⟩; have HM := Lib.hid hm; have HB := Lib.hid hb; have q4 := hm.c.k4; have q4f := hm.c.f4; clear hm hb)
  go_ret
  exact ⟨rfl, HM.out.set4 _, HB.out.trans (HM.out.setB 4 _)⟩
/-- Whether the number that is k behind the last one has come. -/
def bitN (come k : Nat) : Nat := come / 2 ^ k &&& 1
theorem and1_eq {come k : Nat} (hc : come < 18446744073709551616) : bits .and .u64 ((come : Int) / 2 ^ k) 1 = ((bitN come k : Nat) : Int) := by
  rw [show (come : Int) / 2 ^ k = ((come / 2 ^ k : Nat) : Int) by simp]
  exact bits_and_u64_nat _ 1 (Nat.lt_of_le_of_lt (Nat.div_le_self _ _) hc) (by omega)
theorem or1_eq {come k : Nat} (hc : come < 18446744073709551616) (hk : k < 64) : bits .or .u64 (come : Int) (IntKind.u64.wrap (2 ^ k)) = ((come ||| 2 ^ k : Nat) : Int) := by
  rw [sh1 hk]
  exact bits_or_u64_nat _ _ hc (p2_lt hk)
theorem vec_again (h : Sq w b m) (g : m.Good) (seq : Int) (h0 : 0 ≤ seq) (h1 : seq < 65536) (k : Nat) (hd0 : ahead seq m.last = -(k : Int)) (hd2 : (k : Int) < m.len) (hb : bitN m.come k = 1) : Calls Try.prog 44 #[.pointer (some ⟨b, 0, none⟩), .int .i64 seq] w fun e w' => e = .returned (.int .i64 1) ∧ w' = w := by
  obtain ⟨k0, k1, k2, k3, k4, k5, k6, k7, k8, k9, k10, k11, f3, f4, f5, f6, f7, f8, f9, f10, f11⟩ := h.c
  have e1 := ah_eq g h0 h1
  rw [hd0] at e1
  obtain ⟨D, hD⟩ : ∃ D : Int, -(k : Int) = D := ⟨_, rfl⟩
  rw [hD] at e1
  obtain ⟨_, g1, g2, _, _⟩ := g.ok
  have e3 : wrap64 D = D := by unfold wrap64; omega
  have e4 : wrap64 (-m.len) = -m.len := by unfold wrap64; omega
  have e5 : wrap64 (-D) = (k : Int) := by unfold wrap64; omega
  have d1 : decide (m.len ≤ D) = false := decide_eq_false (by omega)
  have d2 : decide (D ≤ -m.len) = false := decide_eq_false (by omega)
  have d3 : decide (0 < D) = false := decide_eq_false (by omega)
  have mk : min k 64 = k := by omega
  have eA := and1_eq (k := k) g.come
  rw [hb] at eA
  have H := Lib.hid h
  clear h g f3 f4 f5 f6 f7 f8 f9 f10 f11 k0 k2 k5 k6 k7 k8 k9 k10 k11 h0 h1 hd0 hd2 g1 g2 hD hb
  go_enter Try.func44, Try.ntmps44
  go_wp2_with fail
  go_ret
  exact ⟨rfl, rfl⟩
set_option maxHeartbeats 1000000 in
theorem vec_late (h : Sq w b m) (g : m.Good) (seq : Int) (h0 : 0 ≤ seq) (h1 : seq < 65536) (k : Nat) (hd0 : ahead seq m.last = -(k : Int)) (hd2 : (k : Int) < m.len) (hb : bitN m.come k = 0) : Calls Try.prog 44 #[.pointer (some ⟨b, 0, none⟩), .int .i64 seq] w fun e w' => e = .returned (.int .i64 3) ∧ Sq w' b { m with come := m.come ||| 2 ^ k } ∧ ButB b w w' := by
  obtain ⟨k0, k1, k2, k3, k4, k5, k6, k7, k8, k9, k10, k11, f3, f4, f5, f6, f7, f8, f9, f10, f11⟩ := h.c
  have e1 := ah_eq g h0 h1
  rw [hd0] at e1
  obtain ⟨D, hD⟩ : ∃ D : Int, -(k : Int) = D := ⟨_, rfl⟩
  rw [hD] at e1
  obtain ⟨_, g1, g2, _, _⟩ := g.ok
  have e3 : wrap64 D = D := by unfold wrap64; omega
  have e4 : wrap64 (-m.len) = -m.len := by unfold wrap64; omega
  have e5 : wrap64 (-D) = (k : Int) := by unfold wrap64; omega
  have d1 : decide (m.len ≤ D) = false := decide_eq_false (by omega)
  have d2 : decide (D ≤ -m.len) = false := decide_eq_false (by omega)
  have d3 : decide (0 < D) = false := decide_eq_false (by omega)
  have mk : min k 64 = k := by omega
  have eA := and1_eq (k := k) g.come
  rw [hb] at eA
  have eO := or1_eq (k := k) g.come (by omega)
  obtain ⟨M, hM⟩ : ∃ M : Nat, m.come ||| 2 ^ k = M := ⟨_, rfl⟩
  rw [hM] at eO ⊢
  have H := Lib.hid h
  clear h g f4 f5 f6 f7 f8 f9 f10 f11 k0 k2 k5 k6 k7 k8 k9 k10 k11 h0 h1 hd0 hd2 g1 g2 hD hb hM
  go_enter Try.func44, Try.ntmps44
  go_wp2_with fail
  go_region
  all_goals go_wp2_with fail
  all_goals go_ret
  all_goals
    have HD : Sq w.drew b m := H.out
    exact ⟨rfl, HD.set3 M, (ButB.of_below (bDr1 (bRef w))).trans (HD.setB 3 _)⟩
end

end Go.Proofs.Ytnkblihdgfhcdaa
