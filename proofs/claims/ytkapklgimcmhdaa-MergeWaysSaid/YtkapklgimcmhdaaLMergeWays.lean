/- For every setup and every slice of steps MergeWays answers true: with the ways the other way round the same is. No condition. -/
import Derived.Test.YtkapklgimcmhdaaFMergeWays
import Derived.Test.YtkapklgimcmhdaaMgAdd
namespace Go.Proofs.Ytkapklgimcmhdaa
open Go.RowKit Go.Joins

structure Flip (a b : MG) : Prop where
  n : b.n = a.n
  ones : ∀ i, i < a.n → b.ones (a.n - 1 - i) = a.ones i
  all : b.all = a.all
theorem Flip.into {a b : MG} (h : Flip a b) {now seq : Int} {way : Nat} (hw : way < a.n) : (b.told now (a.n - 1 - way) seq ↔ a.told now way seq) ∧ Flip (a.into now way seq) (b.into now (a.n - 1 - way) seq) := by
  have eo := h.ones way hw
  have ep : b.passes now (a.n - 1 - way) seq ↔ a.passes now way seq := by unfold MG.passes; rw [eo]
  have et : b.told now (a.n - 1 - way) seq ↔ a.told now way seq := by unfold MG.told; rw [ep, h.all]
  refine ⟨et, ?_⟩
  have hon : ∀ x, ∀ i, i < a.n → upd b.ones (a.n - 1 - way) x (a.n - 1 - i) = upd a.ones way x i := fun x i hi => by
    by_cases e : i = way
    · subst e; rw [upd_same, upd_same]
    · rw [upd_other _ _ e, upd_other _ _ (by omega)]; exact h.ones i hi
  by_cases hp : a.passes now way seq
  · have e1 : a.into now way seq = ({ a.onto now way seq with all := a.all.into now seq } : MG).shorted (a.all.told now seq) := by unfold MG.into; rw [if_pos hp]
    have e2 : b.into now (a.n - 1 - way) seq = ({ b.onto now (a.n - 1 - way) seq with all := b.all.into now seq } : MG).shorted (b.all.told now seq) := by unfold MG.into; rw [if_pos (ep.2 hp)]
    rw [e1, e2]
    refine ⟨?_, fun i hi => ?_, ?_⟩
    · rw [(shorted_same _ _).1, (shorted_same _ _).1]; exact h.n
    · rw [(shorted_same _ _).1] at hi ⊢
      rw [(shorted_same _ _).2.1, (shorted_same _ _).2.1]
      have := hon ((a.ones way).into now seq) i hi
      show upd b.ones (a.n - 1 - way) ((b.ones (a.n - 1 - way)).into now seq) (a.n - 1 - i) = _
      rw [eo]; exact this
    · rw [(shorted_same _ _).2.2, (shorted_same _ _).2.2]
      show b.all.into now seq = a.all.into now seq
      rw [h.all]
  · have e1 : a.into now way seq = a.onto now way seq := by unfold MG.into; rw [if_neg hp]
    have e2 : b.into now (a.n - 1 - way) seq = b.onto now (a.n - 1 - way) seq := by unfold MG.into; rw [if_neg (fun h => hp (ep.1 h))]
    rw [e1, e2]
    refine ⟨h.n, fun i hi => ?_, h.all⟩
    have := hon ((a.ones way).into now seq) i hi
    show upd b.ones (a.n - 1 - way) ((b.ones (a.n - 1 - way)).into now seq) (a.n - 1 - i) = _
    rw [eo]; exact this
theorem mways_many (ways w1 l1 r1 w2 l2 r2 every limit : Int) (p : Option Addr) (n c : Nat) (w : World) (h : 80 < n) :
    Calls Try.prog 11 #[MV ways w1 l1 r1 w2 l2 r2 every limit, .slice p n c] w fun e w' => e = .returned (.bool true) ∧ Below w.heap.size w w' := by
  have HH := Lib.hid mhead_ret
  have d : decide ((80 : Int) < (n : Int)) = true := decide_eq_true (by omega)
  clear h
  go_enter Try.func11, Try.ntmps11
  go_wp2_with (go_at_call 27; (with_reducible refine (HH.out _).mono ?_); rintro e x1 ⟨rfl, hb⟩; have HB := Lib.hid (bTr (bAl (bRef w) _) hb); clear hb)
  go_ret
  exact ⟨rfl, HB.out⟩
theorem mways_bad (ways w1 l1 r1 w2 l2 r2 every limit : Int) (p : Option Addr) (n c : Nat) (w : World) (h : n ≤ 80) (ho : ¬ okM ways w1 l1 r1 w2 l2 r2 every limit) :
    Calls Try.prog 11 #[MV ways w1 l1 r1 w2 l2 r2 every limit, .slice p n c] w fun e w' => e = .returned (.bool true) ∧ Below w.heap.size w w' := by
  have HH := Lib.hid mhead_ret
  have HN := Lib.hid (fun W => mnew_no ways w1 l1 r1 w2 l2 r2 every limit 0 W ho)
  have d : decide ((80 : Int) < (n : Int)) = false := decide_eq_false (by omega)
  have K0 := Lib.hid (MB.new w ways w1 l1 r1 w2 l2 r2 every limit)
  clear h ho
  go_enter Try.func11, Try.ntmps11
  go_wp2_with (first
    | (go_at_call 27; (with_reducible refine (HH.out _).mono ?_); rintro e x1 ⟨rfl, hb⟩; have HB := Lib.hid (bTr (bAl (bRef w) _) hb); have K1 := Lib.hid (K0.out.below hb); obtain ⟨k0, k1, k2, k3, k4, k5, k6, k7, k8⟩ := K1.out.cells; have ST : Hid True := Lib.hid trivial; clear hb)
    | (go_at_call 28; (with_reducible refine (HN.out _).mono ?_); rintro e x2 ⟨rfl, hb⟩; clear ST; have HB2 := Lib.hid (bTr HB.out hb); obtain ⟨j0, j1, j2, j3, j4, j5, j6, j7, j8⟩ := (K1.out.below hb).cells; clear hb)
    | (go_at_call 28; (with_reducible refine (HN.out _).mono ?_); rintro e x3 ⟨rfl, hb⟩; have HB3 := Lib.hid (bTr HB2.out hb); clear hb))
  go_ret
  exact ⟨rfl, HB3.out⟩
/-- Two Merges, apart, and the setup's box. -/
structure MwS (w : World) (b lo hi b' lo' hi' N : Nat) (w1 l1 r1 w2 l2 r2 every limit : Int) (m m' : MG) (W : World) : Prop where
  a : Mg W b lo hi m
  b : Mg W b' lo' hi' m'
  mb : MB W w.heap.size (N : Int) w1 l1 r1 w2 l2 r2 every limit
  l : w.heap.size < lo
  d : hi ≤ lo'
  bel : Below w.heap.size w W
section
variable {w W W' : World} {b lo hi b' lo' hi' N : Nat} {w1 l1 r1 w2 l2 r2 every limit : Int} {m m' m2 : MG}
theorem MwS.below (h : MwS w b lo hi b' lo' hi' N w1 l1 r1 w2 l2 r2 every limit m m' W) (hb : Below W.heap.size W W') : MwS w b lo hi b' lo' hi' N w1 l1 r1 w2 l2 r2 every limit m m' W' :=
  ⟨h.a.below hb, h.b.below hb, h.mb.below hb, h.l, h.d, h.bel.trans (hb.mono h.bel.size)⟩
theorem MwS.one (h : MwS w b lo hi b' lo' hi' N w1 l1 r1 w2 l2 r2 every limit m m' W) (hm : Mg W' b lo hi m2) (hb : ButI lo hi W W') : MwS w b lo hi b' lo' hi' N w1 l1 r1 w2 l2 r2 every limit m2 m' W' :=
  ⟨hm, h.b.butI hb (.inr h.d), h.mb.butI hb (.inl h.l), h.l, h.d, h.bel.trans (hb.below (Nat.le_of_lt h.l) h.a.top.1 (by have := h.a.top; omega))⟩
theorem MwS.two (h : MwS w b lo hi b' lo' hi' N w1 l1 r1 w2 l2 r2 every limit m m' W) (hm : Mg W' b' lo' hi' m2) (hb : ButI lo' hi' W W') : MwS w b lo hi b' lo' hi' N w1 l1 r1 w2 l2 r2 every limit m m2 W' := by
  have t1 := h.a.top
  have t2 := h.b.top
  have l := h.l
  have d := h.d
  exact ⟨h.a.butI hb (.inl h.d), hm, h.mb.butI hb (.inl (by omega)), h.l, h.d, h.bel.trans (hb.below (by omega) h.b.top.1 (by omega))⟩
theorem MwS.q0 (h : MwS w b lo hi b' lo' hi' N w1 l1 r1 w2 l2 r2 every limit m m' W) : W.cell? ⟨w.heap.size, 0, none⟩ = some (.int .i64 (N : Int)) := h.mb.cells.1
end
def MwRel (w : World) (b lo hi b' lo' hi' n N : Nat) (w1 l1 r1 w2 l2 r2 every limit : Int) (kv : Value) (wr : World) : Prop :=
  ∃ (k : Nat) (m m' : MG), kv = .int .i64 (k : Int) ∧ k ≤ n ∧ MwS w b lo hi b' lo' hi' N w1 l1 r1 w2 l2 r2 every limit m m' wr ∧ m.Good ∧ m'.Good ∧ Flip m m' ∧ m.n = N
def MwEnd (w : World) (b lo hi b' lo' hi' N : Nat) (w1 l1 r1 w2 l2 r2 every limit : Int) (m m' : MG) (iv : Value) (wr : World) : Prop :=
  ∃ i : Nat, iv = .int .i64 (i : Int) ∧ i ≤ N ∧ MwS w b lo hi b' lo' hi' N w1 l1 r1 w2 l2 r2 every limit m m' wr
set_option maxRecDepth 20000 in
set_option maxHeartbeats 8000000 in
theorem mways_ok (N : Nat) (w1 l1 r1 w2 l2 r2 every limit : Int) (p : Option Addr) (n c : Nat) (w : World) (hn : n ≤ 80) (h : okM (N : Int) w1 l1 r1 w2 l2 r2 every limit) (ha : SlArg 4 Oksandglasslaw14Step w (.slice p n c) n) :
    Calls Try.prog 11 #[MV (N : Int) w1 l1 r1 w2 l2 r2 every limit, .slice p n c] w fun e w' => e = .returned (.bool true) ∧ Below w.heap.size w w' := by
  have HH := Lib.hid mhead_ret
  have d : decide ((80 : Int) < (n : Int)) = false := decide_eq_false (by omega)
  have HN := Lib.hid (fun W => mnew_ok N w1 l1 r1 w2 l2 r2 every limit 0 W h (by decide) (by decide))
  have K0 := Lib.hid (MB.new w (N : Int) w1 l1 r1 w2 l2 r2 every limit)
  have HA := Lib.hid ha
  have Hn := Lib.hid hn
  have HN8 : Hid (1 ≤ N ∧ N ≤ 8) := Lib.hid (by have := h.1; omega)
  have HG0 : Hid (M0 N every limit 0 (Q0 w1 l1 r1 0) (Q0 w2 l2 r2 0)).Good := Lib.hid (M0_good HN8.out.1 HN8.out.2 (Q0_good h.2.2.2.1 (by decide) (by decide)) (Q0_good h.2.2.2.2 (by decide) (by decide)))
  clear h ha hn
  go_enter Try.func11, Try.ntmps11
  go_wp2_with (first
    | (go_at_call 27; (with_reducible refine (HH.out _).mono ?_); rintro e x1 ⟨rfl, hb⟩; have HB := Lib.hid (bTr (bAl (bRef w) _) hb); have K1 := Lib.hid (K0.out.below hb); obtain ⟨k0, k1, k2, k3, k4, k5, k6, k7, k8⟩ := K1.out.cells; have ST : Hid True := Lib.hid trivial; clear hb)
    | (go_at_call 28; (with_reducible refine (HN.out _).mono ?_); rintro e x2 ⟨b, lo, rfl, hlo, hm, hb⟩; clear ST; have HM2 := Lib.hid hm; have HLO : Hid (w.heap.size < lo) := Lib.hid (by have := K1.out.lt; omega); have K2 := Lib.hid (K1.out.below hb); obtain ⟨j0, j1, j2, j3, j4, j5, j6, j7, j8⟩ := K2.out.cells; have HB2 := Lib.hid (bTr HB.out hb); clear hlo hm hb)
    | (go_at_call 28; (with_reducible refine (HN.out _).mono ?_); rintro e x3 ⟨b', lo', rfl, hlo, hm, hb⟩; have HS3 : Hid (MwS w b lo x2.heap.size b' lo' x3.heap.size N w1 l1 r1 w2 l2 r2 every limit (M0 N every limit 0 (Q0 w1 l1 r1 0) (Q0 w2 l2 r2 0)) (M0 N every limit 0 (Q0 w1 l1 r1 0) (Q0 w2 l2 r2 0)) x3) := Lib.hid ⟨HM2.out.below hb, hm, K2.out.below hb, HLO.out, hlo, bTr HB2.out hb⟩; clear hlo hm hb))
  go_loopw [42] (fun kv wr => MwRel w b lo x2.heap.size b' lo' x3.heap.size n N w1 l1 r1 w2 l2 r2 every limit kv wr) (fun kv _ => n - (intOf kv).toNat)
  case atStart => exact ⟨0, _, _, rfl, by omega, HS3.out, HG0.out, HG0.out, ⟨rfl, fun _ _ => rfl, rfl⟩, rfl⟩
  case round =>
    clear HM2 HG0 K2 HB2 HLO K1 HB K0 HN HS3 k0 k1 k2 k3 k4 k5 k6 k7 k8 j0 j1 j2 j3 j4 j5 j6 j7 j8
    obtain ⟨k, m, m', rfl, hk, hs, hg, hg', hf, hnn⟩ := hrel
    have HS := Lib.hid hs
    have HG := Lib.hid hg
    have HG' := Lib.hid hg'
    have HF := Lib.hid hf
    have HNN := Lib.hid hnn
    have q0 := hs.q0
    have hn80 := Hn.out
    obtain ⟨hN1, hN8⟩ := HN8.out
    clear hs hg hg' hf hnn
    rcases Nat.lt_or_ge k n with g1 | g1
    · have hd : decide ((k : Int) < (n : Int)) = true := decide_eq_true (by omega)
      obtain ⟨ab, o, F, rfl, hab, hF⟩ := SlArg.at HA.out (by omega)
      obtain ⟨⟨z0, z1, z2, z3, hz, b1, b2, b3⟩, hlen, hc⟩ := hF k g1
      rw [hz] at hc
      have HBel := HS.out.bel
      have c0 := (HBel.cell (p := ⟨ab, o + k * 4 + 0, none⟩) hab).trans (hc 0 (by omega))
      have c1 := (HBel.cell (p := ⟨ab, o + k * 4 + 1, none⟩) hab).trans (hc 1 (by omega))
      have c2 := (HBel.cell (p := ⟨ab, o + k * 4 + 2, none⟩) hab).trans (hc 2 (by omega))
      have c3 := (HBel.cell (p := ⟨ab, o + k * 4 + 3, none⟩) hab).trans (hc 3 (by omega))
      rw [Nat.add_zero] at c0
      simp only [List.getElem?_cons_zero, List.getElem?_cons_succ] at c0 c1 c2 c3
      have HS1 := Lib.hid (HS.out.below (bAl (bRef wr) (.cells #[.bool z0, .int .i64 z1, .int .i64 z2, .int .i64 z3] 70)))
      have q1 := HS1.out.q0
      clear hF hc hlen hz F hab HBel
      by_cases hw : z2 < 0
      · have d1 : decide (z2 < 0) = true := decide_eq_true hw
        clear hw
        go_wp2_with fail
        go_roundw
        case rel => exact ⟨k + 1, m, m', by go_num, by omega, HS1.out, HG.out, HG'.out, HF.out, HNN.out⟩
        case measure => simp [intOf]; omega
      have d1 : decide (z2 < 0) = false := decide_eq_false hw
      by_cases hw2 : (N : Int) ≤ z2
      · have d2 : decide ((N : Int) ≤ z2) = true := decide_eq_true hw2
        clear hw hw2
        go_wp2_with fail
        go_roundw
        case rel => exact ⟨k + 1, m, m', by go_num, by omega, HS1.out, HG.out, HG'.out, HF.out, HNN.out⟩
        case measure => simp [intOf]; omega
      have d2 : decide ((N : Int) ≤ z2) = false := decide_eq_false hw2
      obtain ⟨y, hy⟩ : ∃ y : Nat, z2 = (y : Int) := ⟨z2.toNat, by omega⟩
      have hyn : y < m.n := by have := HNN.out; omega
      have e1 : wrap64 ((N : Int) - 1) = (N : Int) - 1 := by unfold wrap64; omega
      have e2 : wrap64 ((N : Int) - 1 - z2) = ((m.n - 1 - y : Nat) : Int) := by have := HNN.out; unfold wrap64; omega
      have hyn' : m.n - 1 - y < m'.n := by rw [HF.out.n]; omega
      have key : ∃ (T : Bool) (v : Int) (m2 m2' : MG), (∀ W, Mg W b lo x2.heap.size m → Calls Try.prog 30 #[.pointer (some ⟨b, 0, none⟩), .int .i64 z1, .int .i64 z2, .int .i64 z3] W fun e w' => e = .returned (.tuple #[.bool T, .int .i64 v]) ∧ Mg w' b lo x2.heap.size m2 ∧ ButI lo x2.heap.size W w') ∧ (∀ W, Mg W b' lo' x3.heap.size m' → Calls Try.prog 30 #[.pointer (some ⟨b', 0, none⟩), .int .i64 z1, .int .i64 ((m.n - 1 - y : Nat) : Int), .int .i64 z3] W fun e w' => e = .returned (.tuple #[.bool T, .int .i64 v]) ∧ Mg w' b' lo' x3.heap.size m2' ∧ ButI lo' x3.heap.size W w') ∧ m2.Good ∧ m2'.Good ∧ Flip m2 m2' ∧ m2.n = N := by
        subst hy
        by_cases hs : z3 < 0 ∨ 65536 ≤ z3
        · exact ⟨false, 1, m, m', fun W hW => (min_bad hW z1 z3 y hyn hs).mono (fun e w' ⟨h1, h2⟩ => ⟨h1, by rw [h2]; exact hW, by rw [h2]; exact ButI.refl _ _ _⟩), fun W hW => (min_bad hW z1 z3 _ hyn' hs).mono (fun e w' ⟨h1, h2⟩ => ⟨h1, by rw [h2]; exact hW, by rw [h2]; exact ButI.refl _ _ _⟩), HG.out, HG'.out, HF.out, HNN.out⟩
        · obtain ⟨f1, f2⟩ := HF.out.into (now := z1) (seq := z3) hyn
          refine ⟨decide (m.told z1 y z3), 0, m.into z1 y z3, m'.into z1 (m.n - 1 - y) z3, fun W hW => min_ok hW HG.out z1 z3 y hyn b1.1 b1.2 (by omega) (by omega), fun W hW => ?_, HG.out.into b1.1 b1.2 (by omega) (by omega), HG'.out.into b1.1 b1.2 (by omega) (by omega), f2, (into_n _ _ _ _).trans HNN.out⟩
          have q := min_ok hW HG'.out z1 z3 (m.n - 1 - y) hyn' b1.1 b1.2 (by omega) (by omega)
          rw [show decide (m'.told z1 (m.n - 1 - y) z3) = decide (m.told z1 y z3) by rw [Bool.eq_iff_iff, decide_eq_true_eq, decide_eq_true_eq]; exact f1] at q
          exact q
      obtain ⟨T, v, m2, m2', hI, hI', hg2, hg2', hf2, hn2⟩ := key
      have HIn := Lib.hid hI
      have HIn' := Lib.hid hI'
      have HG2 := Lib.hid hg2
      have HG2' := Lib.hid hg2'
      have HF2 := Lib.hid hf2
      have HN2 := Lib.hid hn2
      obtain ⟨Y, hY⟩ : ∃ Y : Int, ((m.n - 1 - y : Nat) : Int) = Y := ⟨_, rfl⟩
      rw [hY] at e2 HIn'
      have HHI := Lib.hid HS.out.a.top
      clear hI hI' hg2 hg2' hf2 hn2 b1 b2 b3 hw hw2 hy hyn hyn' hY
      cases T
      all_goals
        go_wp2_with (first
          | (go_at_call 30; (with_reducible refine (HIn.out _ HS1.out.a).mono ?_); rintro e x4 ⟨rfl, hm, hb⟩; have HS4 := Lib.hid (HS1.out.one hm hb); have q4 := HS4.out.q0; have s1 : x4.cell? ⟨wr.heap.size, 1, none⟩ = some (.int .i64 z1) := (heap_cell (hb.block wr.heap.size (by simp) (.inr (by have := HHI.out; omega))) 1).1.trans (by simp); have s2 : x4.cell? ⟨wr.heap.size, 2, none⟩ = some (.int .i64 z2) := (heap_cell (hb.block wr.heap.size (by simp) (.inr (by have := HHI.out; omega))) 2).1.trans (by simp); have s3 : x4.cell? ⟨wr.heap.size, 3, none⟩ = some (.int .i64 z3) := (heap_cell (hb.block wr.heap.size (by simp) (.inr (by have := HHI.out; omega))) 3).1.trans (by simp); clear hm hb)
          | (go_at_call 30; (with_reducible refine (HIn'.out _ HS4.out.b).mono ?_); rintro e x5 ⟨rfl, hm, hb⟩; have HS5 := Lib.hid (HS4.out.two hm hb); clear hm hb))
        go_roundw
        case rel => exact ⟨k + 1, m2, m2', by go_num, by omega, HS5.out, HG2.out, HG2'.out, HF2.out, HN2.out⟩
        case measure => simp [intOf]; omega
    · obtain rfl : k = n := by omega
      have hd : decide ((k : Int) < (k : Int)) = false := decide_eq_false (by omega)
      go_wp2_with fail
      go_loopw [15] (fun iv wr => MwEnd w b lo x2.heap.size b' lo' x3.heap.size N w1 l1 r1 w2 l2 r2 every limit m m' iv wr) (fun iv _ => N - (intOf iv).toNat)
      case atStart => exact ⟨0, rfl, by omega, HS.out⟩
      case round =>
        clear HS q0
        obtain ⟨i, rfl, hi, hs⟩ := hrel
        have HS := Lib.hid hs
        have q0 := hs.q0
        clear hs
        have hnn := HNN.out
        rcases Nat.lt_or_ge i N with g2 | g2
        · have hd2 : decide ((i : Int) < (N : Int)) = true := decide_eq_true (by omega)
          have HQ := fun W (hW : MwS w b lo x2.heap.size b' lo' x3.heap.size N w1 l1 r1 w2 l2 r2 every limit m m' W) => mcounts_any hW.a i (by omega)
          have HQ' := fun W (hW : MwS w b lo x2.heap.size b' lo' x3.heap.size N w1 l1 r1 w2 l2 r2 every limit m m' W) => mcounts_any hW.b (m.n - 1 - i) (by rw [HF.out.n]; omega)
          rw [show m.counts i = m.ones i by unfold MG.counts; rw [if_pos (by omega)]] at HQ
          rw [show m'.counts (m.n - 1 - i) = m.ones i by unfold MG.counts; rw [HF.out.n, if_pos (by omega)]; exact HF.out.ones i (by omega)] at HQ'
          have e1 : IntKind.i64.wrap ((N : Int) - 1) = (N : Int) - 1 := by rw [IntKind.wrap_i64]; omega
          have e2 : IntKind.i64.wrap ((N : Int) - 1 - (i : Int)) = ((m.n - 1 - i : Nat) : Int) := by rw [IntKind.wrap_i64]; omega
          generalize (m.ones i).c0 = v0 at *
          generalize (m.ones i).c1 = v1 at *
          generalize (m.ones i).c2 = v2 at *
          generalize (m.ones i).c3 = v3 at *
          obtain ⟨Y, hY⟩ : ∃ Y : Int, ((m.n - 1 - i : Nat) : Int) = Y := ⟨_, rfl⟩
          rw [hY] at e2 HQ'
          have HQa := Lib.hid HQ
          have HQb := Lib.hid HQ'
          have hq := fun W => run_neC4 v0 v1 v2 v3 v0 v1 v2 v3 W true (by simp)
          clear HQ HQ' hY hnn
          go_wp2_with fail
          go_region_held3 (fun W => W.cell? ⟨w.heap.size, 0, none⟩ = some (.int .i64 (N : Int)) ∧ MwS w b lo x2.heap.size b' lo' x3.heap.size N w1 l1 r1 w2 l2 r2 every limit m m' W)
            (first | (refine ⟨?_, ?_⟩ <;> first | go_keep | exact HS.out.below (bDr1 (bRef _)) | exact HS.out) | (go_split_ands; exact ⟨(MwS.below (by assumption) hb1).q0, MwS.below (by assumption) hb1⟩))
            (first
              | (go_split_ands; go_at_call 33; (with_reducible refine (HQa.out _ (by assumption)).mono ?_); rintro e w1x ⟨rfl, hb1⟩)
              | (go_split_ands; go_at_call 33; (with_reducible refine (HQb.out _ (by assumption)).mono ?_); rintro e w1x ⟨rfl, hb1⟩))
          all_goals
            go_split_ands
            go_wp2_with fail
            go_roundw
            case rel => exact ⟨i + 1, by go_num, by omega, by assumption⟩
            case measure => simp [intOf]; omega
        · obtain rfl : i = N := by omega
          have hd2 : decide ((i : Int) < (i : Int)) = false := decide_eq_false (by omega)
          have HQ := fun W (hW : MwS w b lo x2.heap.size b' lo' x3.heap.size i w1 l1 r1 w2 l2 r2 every limit m m' W) => mcounts_any hW.a i (by omega)
          have HQ' := fun W (hW : MwS w b lo x2.heap.size b' lo' x3.heap.size i w1 l1 r1 w2 l2 r2 every limit m m' W) => mcounts_any hW.b i (by rw [HF.out.n]; omega)
          rw [show m.counts i = m.all by unfold MG.counts; rw [if_neg (by omega)]] at HQ
          rw [show m'.counts i = m.all by unfold MG.counts; rw [HF.out.n, if_neg (by omega)]; exact HF.out.all] at HQ'
          generalize m.all.c0 = v0 at *
          generalize m.all.c1 = v1 at *
          generalize m.all.c2 = v2 at *
          generalize m.all.c3 = v3 at *
          have HQa := Lib.hid HQ
          have HQb := Lib.hid HQ'
          have hq := fun W => run_eqC4 v0 v1 v2 v3 v0 v1 v2 v3 W true (by simp)
          clear HQ HQ' hnn
          go_wp2_with fail
          go_region_held3 (fun W => W.cell? ⟨w.heap.size, 0, none⟩ = some (.int .i64 (i : Int)) ∧ MwS w b lo x2.heap.size b' lo' x3.heap.size i w1 l1 r1 w2 l2 r2 every limit m m' W)
            (first | (refine ⟨?_, ?_⟩ <;> first | go_keep | exact HS.out.below (bDr1 (bRef _)) | exact HS.out) | (go_split_ands; exact ⟨(MwS.below (by assumption) hb1).q0, MwS.below (by assumption) hb1⟩))
            (first
              | (go_split_ands; go_at_call 33; (with_reducible refine (HQa.out _ (by assumption)).mono ?_); rintro e w1x ⟨rfl, hb1⟩)
              | (go_split_ands; go_at_call 33; (with_reducible refine (HQb.out _ (by assumption)).mono ?_); rintro e w1x ⟨rfl, hb1⟩))
          all_goals
            go_split_ands
            go_wp2_with fail
            go_ret
            exact ⟨rfl, MwS.bel (by assumption)⟩

theorem mergeWays_holds : Rows.MergeWaysSaid := mergeWays_of (fun ways w1 l1 r1 w2 l2 r2 every limit v n w _ _ _ _ _ _ _ _ _ ha => by
  obtain ⟨p, c, rfl⟩ := ha.slice
  by_cases hn : 80 < n
  · exact mways_many ways w1 l1 r1 w2 l2 r2 every limit p n c w hn
  by_cases h : okM ways w1 l1 r1 w2 l2 r2 every limit
  · obtain ⟨N, rfl⟩ : ∃ N : Nat, ways = (N : Int) := ⟨ways.toNat, by have := h.1; omega⟩
    exact mways_ok N w1 l1 r1 w2 l2 r2 every limit p n c w (by omega) h ha
  · exact mways_bad ways w1 l1 r1 w2 l2 r2 every limit p n c w (by omega) h)

end Go.Proofs.Ytkapklgimcmhdaa
