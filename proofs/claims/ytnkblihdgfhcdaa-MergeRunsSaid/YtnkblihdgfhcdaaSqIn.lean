/- Package seqr: In. -/
import Derived.Test.YtnkblihdgfhcdaaSqVec
namespace Go.Proofs.Ytnkblihdgfhcdaa
open Go.RowKit Go.Joins

def SQ.noted (m : SQ) (seq : Int) : SQ × Int :=
  if m.come = 0 then ({ m with come := 1, last := seq }, 0)
  else if m.way = 1 then (if seq = m.last then (m, 1) else ({ m with last := seq }, 0))
  else if m.len ≤ ahead seq m.last ∨ ahead seq m.last ≤ -m.len then (m, 2)
  else if 0 < ahead seq m.last then ({ m.moved (ahead seq m.last).toNat with last := seq }, 0)
  else if bitN m.come (-ahead seq m.last).toNat = 1 then (m, 1)
  else ({ m with come := m.come ||| 2 ^ (-ahead seq m.last).toNat }, 3)
theorem bitN_two (c k : Nat) : bitN c k = 0 ∨ bitN c k = 1 := by
  unfold bitN
  rw [Nat.and_one_is_mod]
  omega
section
variable {w : World} {b : Nat} {m : SQ}
theorem note_new (h : Sq w b m) (seq : Int) (hc : m.come = 0) : Calls Try.prog 37 #[.pointer (some ⟨b, 0, none⟩), .int .i64 seq] w fun e w' => e = .returned (.int .i64 0) ∧ Sq w' b { m with come := 1, last := seq } ∧ ButB b w w' := by
  obtain ⟨k0, k1, k2, k3, k4, k5, k6, k7, k8, k9, k10, k11, f3, f4, f5, f6, f7, f8, f9, f10, f11⟩ := h.c
  have HN := isNew_any h
  rw [decide_eq_true hc] at HN
  have HN' := Lib.hid HN
  have H := Lib.hid h
  clear h HN hc f5 f6 f7 f8 f9 f10 f11 k0 k1 k2 k5 k6 k7 k8 k9 k10 k11
  go_enter Try.func37, Try.ntmps37
  go_wp2_with (go_at_call 35; (with_reducible refine HN'.out.mono ?_); rintro e w1 ⟨rfl, rfl⟩)
  go_ret
  exact ⟨rfl, (H.out.set3 1).set4 _, (H.out.setB 3 _).trans ((H.out.set3 1).setB 4 _)⟩
theorem note_match (h : Sq w b m) (seq : Int) (hc : m.come ≠ 0) (hw : m.way = 1) (x : Int) (m' : SQ)
    (HX : Calls Try.prog 43 #[.pointer (some ⟨b, 0, none⟩), .int .i64 seq] w fun e w' => e = .returned (.int .i64 x) ∧ Sq w' b m' ∧ ButB b w w') :
    Calls Try.prog 37 #[.pointer (some ⟨b, 0, none⟩), .int .i64 seq] w fun e w' => e = .returned (.int .i64 x) ∧ Sq w' b m' ∧ ButB b w w' := by
  have k0 := h.c.k0
  rw [hw] at k0
  have HN := isNew_any h
  rw [decide_eq_false hc] at HN
  have HN' := Lib.hid HN
  have HX' := Lib.hid HX
  clear h HN HX hc hw
  go_enter Try.func37, Try.ntmps37
  go_wp2_with (first
    | (go_at_call 35; (with_reducible refine HN'.out.mono ?_); rintro e w1 ⟨rfl, rfl⟩)
    | (go_at_call 43; (with_reducible refine HX'.out.mono ?_); rintro e w2 ⟨rfl, hm, hb⟩; have HM := Lib.hid hm; have HB := Lib.hid hb; clear hm hb))
  go_ret
  exact ⟨rfl, HM.out, HB.out⟩
theorem note_vector (h : Sq w b m) (seq : Int) (hc : m.come ≠ 0) (hw : m.way = 0) (x : Int) (m' : SQ)
    (HX : Calls Try.prog 44 #[.pointer (some ⟨b, 0, none⟩), .int .i64 seq] w fun e w' => e = .returned (.int .i64 x) ∧ Sq w' b m' ∧ ButB b w w') :
    Calls Try.prog 37 #[.pointer (some ⟨b, 0, none⟩), .int .i64 seq] w fun e w' => e = .returned (.int .i64 x) ∧ Sq w' b m' ∧ ButB b w w' := by
  have k0 := h.c.k0
  rw [hw] at k0
  have HN := isNew_any h
  rw [decide_eq_false hc] at HN
  have HN' := Lib.hid HN
  have HX' := Lib.hid HX
  clear h HN HX hc hw
  go_enter Try.func37, Try.ntmps37
  go_wp2_with (first
    | (go_at_call 35; (with_reducible refine HN'.out.mono ?_); rintro e w1 ⟨rfl, rfl⟩)
    | (go_at_call 44; (with_reducible refine HX'.out.mono ?_); rintro e w2 ⟨rfl, hm, hb⟩; have HM := Lib.hid hm; have HB := Lib.hid hb; clear hm hb))
  go_ret
  exact ⟨rfl, HM.out, HB.out⟩
theorem quiet_but {f : Nat} {args : Array Value} {x : Int} (h : Sq w b m) (HX : Calls Try.prog f args w fun e w' => e = .returned (.int .i64 x) ∧ w' = w) :
    Calls Try.prog f args w fun e w' => e = .returned (.int .i64 x) ∧ Sq w' b m ∧ ButB b w w' :=
  HX.mono (fun _ _ ⟨h1, h2⟩ => ⟨h1, by rw [h2]; exact h, by rw [h2]; exact ButB.refl b w⟩)
theorem note_any (h : Sq w b m) (g : m.Good) (seq : Int) (h0 : 0 ≤ seq) (h1 : seq < 65536) : Calls Try.prog 37 #[.pointer (some ⟨b, 0, none⟩), .int .i64 seq] w fun e w' => e = .returned (.int .i64 (m.noted seq).2) ∧ Sq w' b (m.noted seq).1 ∧ ButB b w w' := by
  have hA := ahead_le seq m.last
  unfold SQ.noted
  by_cases hc : m.come = 0
  · rw [if_pos hc]; exact note_new h seq hc
  rw [if_neg hc]
  by_cases hw : m.way = 1
  · rw [if_pos hw]
    by_cases hs : seq = m.last
    · rw [if_pos hs]; exact note_match h seq hc hw _ _ (quiet_but h (match_again h seq hs))
    · rw [if_neg hs]; exact note_match h seq hc hw _ _ (match_taken h seq hs)
  rw [if_neg hw]
  have hw0 : m.way = 0 := g.ok.1.resolve_right hw
  by_cases hr : m.len ≤ ahead seq m.last ∨ ahead seq m.last ≤ -m.len
  · rw [if_pos hr]; exact note_vector h seq hc hw0 _ _ (quiet_but h (vec_rogue h g seq h0 h1 hr))
  rw [if_neg hr]
  by_cases hp : 0 < ahead seq m.last
  · rw [if_pos hp]; exact note_vector h seq hc hw0 _ _ (vec_taken h g seq h0 h1 _ (by omega) (by omega) (by omega))
  rw [if_neg hp]
  by_cases hb : bitN m.come (-ahead seq m.last).toNat = 1
  · rw [if_pos hb]; exact note_vector h seq hc hw0 _ _ (quiet_but h (vec_again h g seq h0 h1 _ (by omega) (by omega) hb))
  · rw [if_neg hb]; exact note_vector h seq hc hw0 _ _ (vec_late h g seq h0 h1 _ (by omega) (by omega) ((bitN_two _ _).resolve_right hb))

/-- Whether it is long since a frame was taken. -/
def SQ.silent (m : SQ) (now : Int) : Prop := m.when ≤ now ∧ m.reset ≤ now - m.when
instance (m : SQ) (now : Int) : Decidable (m.silent now) := by unfold SQ.silent; infer_instance
theorem silent_any (h : Sq w b m) (g : m.Good) (now : Int) (n0 : -9223372036854775808 ≤ now) (n1 : now < 9223372036854775808) : Calls Try.prog 36 #[.pointer (some ⟨b, 0, none⟩), .int .i64 now] w fun e w' => e = .returned (.bool (decide (m.silent now))) ∧ Below w.heap.size w w' := by
  obtain ⟨k0, k1, k2, k3, k4, k5, k6, k7, k8, k9, k10, k11, f3, f4, f5, f6, f7, f8, f9, f10, f11⟩ := h.c
  obtain ⟨g1, g2⟩ := g.w
  obtain ⟨_, _, _, r1, r2⟩ := g.ok
  by_cases hw : m.when ≤ now
  · have d1 : decide (m.when ≤ now) = true := decide_eq_true hw
    have e1 : IntKind.u64.wrap (IntKind.u64.wrap now - IntKind.u64.wrap m.when) = now - m.when := by rw [IntKind.wrap_u64, IntKind.wrap_u64, IntKind.wrap_u64]; omega
    have e2 : IntKind.u64.wrap m.reset = m.reset := by rw [IntKind.wrap_u64]; omega
    have e3 : decide (m.silent now) = decide (m.reset ≤ now - m.when) := by rw [Bool.eq_iff_iff, decide_eq_true_eq, decide_eq_true_eq]; exact ⟨fun h => h.2, fun h => ⟨hw, h⟩⟩
    rw [e3]
    obtain ⟨v, hv⟩ : ∃ v, decide (m.reset ≤ now - m.when) = v := ⟨_, rfl⟩
    rw [hv]
    clear h g f3 f4 f5 f6 f7 f8 f9 f10 f11 k0 k1 k3 k4 k6 k7 k8 k9 k10 k11 hw g1 g2 r1 r2 n0 n1 e3
    go_enter Try.func36, Try.ntmps36
    go_wp2_with fail
    go_quiet (fail)
    go_wp2_with fail
    go_ret
    exact ⟨ret_b (by simp_all), bDr (bRef w) _⟩
  · have d1 : decide (m.when ≤ now) = false := decide_eq_false hw
    rw [show decide (m.silent now) = false from decide_eq_false (fun h => hw h.1)]
    clear h g f3 f4 f5 f6 f7 f8 f9 f10 f11 k0 k1 k2 k3 k4 k6 k7 k8 k9 k10 k11 hw g1 g2 r1 r2 n0 n1
    go_enter Try.func36, Try.ntmps36
    go_wp2_with fail
    go_quiet (fail)
    go_wp2_with fail
    go_ret
    exact ⟨rfl, bDr (bRef w) _⟩

def SQ.anew (m : SQ) : SQ := { m with come := 0, resets := wrap64 (m.resets + 1) }
def SQ.fresh (m : SQ) (now : Int) : SQ := if m.come ≠ 0 ∧ m.silent now then m.anew else m
def SQ.count (m : SQ) (x : Int) : SQ := if x = 0 then { m with c0 := wrap64 (m.c0 + 1) } else if x = 1 then { m with c1 := wrap64 (m.c1 + 1) } else if x = 2 then { m with c2 := wrap64 (m.c2 + 1) } else { m with c3 := wrap64 (m.c3 + 1) }
def SQ.timed (m : SQ) (x now : Int) : SQ := if x = 0 ∨ x = 3 then { m with when := now } else m
/-- What In tells, and what is behind it. -/
def SQ.told (m : SQ) (now seq : Int) : Int := ((m.fresh now).noted seq).2
def SQ.into (m : SQ) (now seq : Int) : SQ := ((((m.fresh now).noted seq).1.count (m.told now seq)).timed (m.told now seq) now)
theorem noted_two (m : SQ) (seq : Int) : (m.noted seq).2 = 0 ∨ (m.noted seq).2 = 1 ∨ (m.noted seq).2 = 2 ∨ (m.noted seq).2 = 3 := by
  unfold SQ.noted
  repeat' split
  all_goals simp
theorem SQ.Good.anew (g : m.Good) : m.anew.Good := ⟨g.ok, by show 0 < _; omega, g.l0, g.l1, g.w⟩
theorem SQ.Good.fresh (g : m.Good) (now : Int) : (m.fresh now).Good := by
  unfold SQ.fresh
  split
  · exact g.anew
  · exact g
theorem moveN_lt (c d : Nat) : moveN c d < 18446744073709551616 := Nat.or_lt_two_pow (n := 64) (Nat.mod_lt _ (by decide)) (by decide)
theorem SQ.Good.noted (g : m.Good) {seq : Int} (h0 : 0 ≤ seq) (h1 : seq < 65536) : (m.noted seq).1.Good := by
  unfold SQ.noted
  obtain ⟨_, g1, g2, _, _⟩ := g.ok
  have hA := ahead_le seq m.last
  split
  · exact ⟨g.ok, by show 1 < _; omega, h0, h1, g.w⟩
  split
  · split
    · exact g
    · exact ⟨g.ok, g.come, h0, h1, g.w⟩
  split
  · exact g
  rename_i hr
  split
  · exact ⟨g.ok, moveN_lt _ _, h0, h1, g.w⟩
  split
  · exact g
  · exact ⟨g.ok, Nat.or_lt_two_pow (n := 64) g.come (p2_lt (by omega)), g.l0, g.l1, g.w⟩
theorem SQ.Good.count (g : m.Good) (x : Int) : (m.count x).Good := by
  unfold SQ.count
  repeat' split
  all_goals exact ⟨g.ok, g.come, g.l0, g.l1, g.w⟩
theorem SQ.Good.timed (g : m.Good) (x : Int) {now : Int} (n0 : -9223372036854775808 ≤ now) (n1 : now < 9223372036854775808) : (m.timed x now).Good := by
  unfold SQ.timed
  split
  · exact ⟨g.ok, g.come, g.l0, g.l1, n0, n1⟩
  · exact g
theorem SQ.Good.into (g : m.Good) {now seq : Int} (n0 : -9223372036854775808 ≤ now) (n1 : now < 9223372036854775808) (h0 : 0 ≤ seq) (h1 : seq < 65536) : (m.into now seq).Good :=
  (((g.fresh now).noted h0 h1).count _).timed _ n0 n1
theorem in_nil (now seq : Int) (w : World) : Calls Try.prog 16 #[.pointer none, .int .i64 now, .int .i64 seq] w fun e w' => e = .returned (.tuple #[.int .i64 2, .int .i64 1]) ∧ w' = w := by
  go_enter Try.func16, Try.ntmps16
  go_wp2_with fail
  go_ret2
  exact ⟨rfl, rfl⟩
theorem in_bad (b : Nat) (now seq : Int) (w : World) (hs : seq < 0 ∨ 65536 ≤ seq) : Calls Try.prog 16 #[.pointer (some ⟨b, 0, none⟩), .int .i64 now, .int .i64 seq] w fun e w' => e = .returned (.tuple #[.int .i64 2, .int .i64 1]) ∧ w' = w := by
  by_cases h : seq < 0
  · have d1 : decide (seq < 0) = true := decide_eq_true h
    clear hs h
    go_enter Try.func16, Try.ntmps16
    go_wp2_with fail
    go_ret2
    exact ⟨rfl, rfl⟩
  · have d1 : decide (seq < 0) = false := decide_eq_false h
    have d2 : decide (65536 ≤ seq) = true := decide_eq_true (by omega)
    clear hs h
    go_enter Try.func16, Try.ntmps16
    go_wp2_with fail
    go_ret2
    exact ⟨rfl, rfl⟩
theorem in_end0 (h : Sq w b m) (now : Int) : Sq ((w.setCell ⟨b, 6, none⟩ (.int .i64 (wrap64 (m.c0 + 1)))).setCell ⟨b, 5, none⟩ (.int .i64 now)) b ((m.count 0).timed 0 now) ∧ ButB b w ((w.setCell ⟨b, 6, none⟩ (.int .i64 (wrap64 (m.c0 + 1)))).setCell ⟨b, 5, none⟩ (.int .i64 now)) := by
  have e : (m.count 0).timed 0 now = { m with c0 := wrap64 (m.c0 + 1), when := now } := by simp [SQ.count, SQ.timed]
  rw [e]
  exact ⟨(h.set6 _).set5 _, (h.setB 6 _).trans ((h.set6 _).setB 5 _)⟩
theorem in_end3 (h : Sq w b m) (now : Int) : Sq ((w.setCell ⟨b, 9, none⟩ (.int .i64 (wrap64 (m.c3 + 1)))).setCell ⟨b, 5, none⟩ (.int .i64 now)) b ((m.count 3).timed 3 now) ∧ ButB b w ((w.setCell ⟨b, 9, none⟩ (.int .i64 (wrap64 (m.c3 + 1)))).setCell ⟨b, 5, none⟩ (.int .i64 now)) := by
  have e : (m.count 3).timed 3 now = { m with c3 := wrap64 (m.c3 + 1), when := now } := by simp [SQ.count, SQ.timed]
  rw [e]
  exact ⟨(h.set9 _).set5 _, (h.setB 9 _).trans ((h.set9 _).setB 5 _)⟩
theorem in_end1 (h : Sq w b m) (now : Int) : Sq (w.setCell ⟨b, 7, none⟩ (.int .i64 (wrap64 (m.c1 + 1)))) b ((m.count 1).timed 1 now) ∧ ButB b w (w.setCell ⟨b, 7, none⟩ (.int .i64 (wrap64 (m.c1 + 1)))) := by
  have e : (m.count 1).timed 1 now = { m with c1 := wrap64 (m.c1 + 1) } := by simp [SQ.count, SQ.timed]
  rw [e]
  exact ⟨h.set7 _, h.setB 7 _⟩
theorem in_end2 (h : Sq w b m) (now : Int) : Sq (w.setCell ⟨b, 8, none⟩ (.int .i64 (wrap64 (m.c2 + 1)))) b ((m.count 2).timed 2 now) ∧ ButB b w (w.setCell ⟨b, 8, none⟩ (.int .i64 (wrap64 (m.c2 + 1)))) := by
  have e : (m.count 2).timed 2 now = { m with c2 := wrap64 (m.c2 + 1) } := by simp [SQ.count, SQ.timed]
  rw [e]
  exact ⟨h.set8 _, h.setB 8 _⟩
set_option maxHeartbeats 4000000 in
theorem in_ok (h : Sq w b m) (g : m.Good) (now seq : Int) (n0 : -9223372036854775808 ≤ now) (n1 : now < 9223372036854775808) (h0 : 0 ≤ seq) (h1 : seq < 65536) :
    Calls Try.prog 16 #[.pointer (some ⟨b, 0, none⟩), .int .i64 now, .int .i64 seq] w fun e w' => e = .returned (.tuple #[.int .i64 (m.told now seq), .int .i64 0]) ∧ Sq w' b (m.into now seq) ∧ ButB b w w' := by
  have d1 : decide (seq < 0) = false := decide_eq_false (by omega)
  have d2 : decide (65536 ≤ seq) = false := decide_eq_false (by omega)
  have HI := isNew_any h
  have HS := silent_any h g now n0 n1
  have HR := Lib.hid (fun W (hW : Sq W b m) => reset_any hW)
  have HNo := Lib.hid (fun W (hW : Sq W b (m.fresh now)) => note_any hW (g.fresh now) seq h0 h1)
  have hx := noted_two (m.fresh now) seq
  unfold SQ.into SQ.told
  obtain ⟨x, hxx⟩ : ∃ x, ((m.fresh now).noted seq).2 = x := ⟨_, rfl⟩
  obtain ⟨m2, hm2⟩ : ∃ m2, ((m.fresh now).noted seq).1 = m2 := ⟨_, rfl⟩
  rw [hxx] at HNo hx ⊢
  rw [hm2] at HNo ⊢
  clear hxx hm2 n0 n1 h0 h1
  have H := Lib.hid h
  have hf : (m.come ≠ 0 ∧ m.silent now ∧ m.fresh now = m.anew) ∨ (m.come ≠ 0 ∧ ¬ m.silent now ∧ m.fresh now = m) ∨ (m.come = 0 ∧ m.fresh now = m) := by
    unfold SQ.fresh
    by_cases a : m.come = 0
    · exact .inr (.inr ⟨a, if_neg (fun h => h.1 a)⟩)
    by_cases c : m.silent now
    · exact .inl ⟨a, c, if_pos ⟨a, c⟩⟩
    · exact .inr (.inl ⟨a, c, if_neg (fun h => c h.2)⟩)
  clear h g
  rcases hf with ⟨a, c, f⟩ | ⟨a, c, f⟩ | ⟨a, f⟩
  · rw [decide_eq_false a] at HI
    rw [decide_eq_true c] at HS
    rw [f] at HNo
    have HI' := Lib.hid HI
    have HS' := Lib.hid HS
    clear HI HS a c f
    rcases hx with rfl | rfl | rfl | rfl
    all_goals
      go_enter Try.func16, Try.ntmps16
      go_wp2_with (first
        | (go_at_call 35; (with_reducible refine HI'.out.mono ?_); rintro e w1 ⟨rfl, rfl⟩)
        | (go_at_call 36; (with_reducible refine HS'.out.mono ?_); rintro e w2 ⟨rfl, hb⟩; have HM2 := Lib.hid (H.out.below hb); have HB2 := Lib.hid (ButB.of_below (b := b) hb); clear hb)
        | (go_at_call 17; (with_reducible refine (HR.out _ HM2.out).mono ?_); rintro e w3 ⟨rfl, hm, hb⟩; have HM3 := Lib.hid hm; have HB3 := Lib.hid (HB2.out.trans hb); clear hm hb)
        | (go_at_call 37; (with_reducible refine (HNo.out _ HM3.out).mono ?_); rintro e w4 ⟨rfl, hm, hb⟩; have HM4 := Lib.hid hm; have HB4 := Lib.hid (HB3.out.trans hb); obtain ⟨q0, q1, q2, q3, q4, q5, q6, q7, q8, q9, q10, q11, r3, r4, r5, r6, r7, r8, r9, r10, r11⟩ := hm.c; clear hm hb q0 q1 q2 q3 q4 q10 q11 r3 r4 r10 r11))
      go_region
      all_goals go_wp2_with fail
      all_goals go_ret2
      all_goals first
        | exact ⟨rfl, (in_end0 HM4.out now).1.drew, (HB4.out.trans (in_end0 HM4.out now).2).trans (ButB.of_below (bDr1 (bRef _)))⟩
        | exact ⟨rfl, (in_end1 HM4.out now).1.drew, (HB4.out.trans (in_end1 HM4.out now).2).trans (ButB.of_below (bDr1 (bRef _)))⟩
        | exact ⟨rfl, (in_end2 HM4.out now).1.drew, (HB4.out.trans (in_end2 HM4.out now).2).trans (ButB.of_below (bDr1 (bRef _)))⟩
        | exact ⟨rfl, (in_end3 HM4.out now).1.drew, (HB4.out.trans (in_end3 HM4.out now).2).trans (ButB.of_below (bDr1 (bRef _)))⟩
  · rw [decide_eq_false a] at HI
    rw [decide_eq_false c] at HS
    rw [f] at HNo
    have HI' := Lib.hid HI
    have HS' := Lib.hid HS
    clear HI HS a c f
    rcases hx with rfl | rfl | rfl | rfl
    all_goals
      go_enter Try.func16, Try.ntmps16
      go_wp2_with (first
        | (go_at_call 35; (with_reducible refine HI'.out.mono ?_); rintro e w1 ⟨rfl, rfl⟩)
        | (go_at_call 36; (with_reducible refine HS'.out.mono ?_); rintro e w2 ⟨rfl, hb⟩; have HM2 := Lib.hid (H.out.below hb); have HB2 := Lib.hid (ButB.of_below (b := b) hb); clear hb)
        | (go_at_call 37; (with_reducible refine (HNo.out _ HM2.out).mono ?_); rintro e w4 ⟨rfl, hm, hb⟩; have HM4 := Lib.hid hm; have HB4 := Lib.hid (HB2.out.trans hb); obtain ⟨q0, q1, q2, q3, q4, q5, q6, q7, q8, q9, q10, q11, r3, r4, r5, r6, r7, r8, r9, r10, r11⟩ := hm.c; clear hm hb q0 q1 q2 q3 q4 q10 q11 r3 r4 r10 r11))
      go_region
      all_goals go_wp2_with fail
      all_goals go_ret2
      all_goals first
        | exact ⟨rfl, (in_end0 HM4.out now).1.drew, (HB4.out.trans (in_end0 HM4.out now).2).trans (ButB.of_below (bDr1 (bRef _)))⟩
        | exact ⟨rfl, (in_end1 HM4.out now).1.drew, (HB4.out.trans (in_end1 HM4.out now).2).trans (ButB.of_below (bDr1 (bRef _)))⟩
        | exact ⟨rfl, (in_end2 HM4.out now).1.drew, (HB4.out.trans (in_end2 HM4.out now).2).trans (ButB.of_below (bDr1 (bRef _)))⟩
        | exact ⟨rfl, (in_end3 HM4.out now).1.drew, (HB4.out.trans (in_end3 HM4.out now).2).trans (ButB.of_below (bDr1 (bRef _)))⟩
  · rw [decide_eq_true a] at HI
    rw [f] at HNo
    have HI' := Lib.hid HI
    clear HI HS a f
    rcases hx with rfl | rfl | rfl | rfl
    all_goals
      go_enter Try.func16, Try.ntmps16
      go_wp2_with (first
        | (go_at_call 35; (with_reducible refine HI'.out.mono ?_); rintro e w1 ⟨rfl, rfl⟩)
        | (go_at_call 37; (with_reducible refine (HNo.out _ H.out).mono ?_); rintro e w4 ⟨rfl, hm, hb⟩; have HM4 := Lib.hid hm; have HB4 := Lib.hid (hb); obtain ⟨q0, q1, q2, q3, q4, q5, q6, q7, q8, q9, q10, q11, r3, r4, r5, r6, r7, r8, r9, r10, r11⟩ := hm.c; clear hm hb q0 q1 q2 q3 q4 q10 q11 r3 r4 r10 r11))
      go_region
      all_goals go_wp2_with fail
      all_goals go_ret2
      all_goals first
        | exact ⟨rfl, (in_end0 HM4.out now).1.drew, (HB4.out.trans (in_end0 HM4.out now).2).trans (ButB.of_below (bDr1 (bRef _)))⟩
        | exact ⟨rfl, (in_end1 HM4.out now).1.drew, (HB4.out.trans (in_end1 HM4.out now).2).trans (ButB.of_below (bDr1 (bRef _)))⟩
        | exact ⟨rfl, (in_end2 HM4.out now).1.drew, (HB4.out.trans (in_end2 HM4.out now).2).trans (ButB.of_below (bDr1 (bRef _)))⟩
        | exact ⟨rfl, (in_end3 HM4.out now).1.drew, (HB4.out.trans (in_end3 HM4.out now).2).trans (ButB.of_below (bDr1 (bRef _)))⟩
end

end Go.Proofs.Ytnkblihdgfhcdaa
