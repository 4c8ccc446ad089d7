/- For every setup, every time and every slice of steps SeqrRuns answers true: what becomes of each number, and all counts, are the reference's. No condition. -/
import Derived.Test.YtkapklgimcmhdaaFSeqrRuns
import Derived.Test.YtkapklgimcmhdaaSqSame
namespace Go.Proofs.Ytkapklgimcmhdaa
open Go.RowKit Go.Joins

theorem runs_many (way len reset now : Int) (p : Option Addr) (n c : Nat) (w : World) (h : 100 < n) :
    Calls Try.prog 3 #[QV way len reset, .int .i64 now, .slice p n c] w fun e w' => e = .returned (.bool true) ∧ Below w.heap.size w w' := by
  have HH := Lib.hid head_ret
  have d : decide ((100 : Int) < (n : Int)) = true := decide_eq_true (by omega)
  clear h
  go_enter Try.func3, Try.ntmps3
  go_wp2_with (go_at_call 13; (with_reducible refine (HH.out _).mono ?_); rintro e w1 ⟨rfl, hb⟩; have HB := Lib.hid (bTr (bAl (bRef w) _) hb); clear hb)
  go_ret
  exact ⟨rfl, HB.out⟩
set_option maxHeartbeats 4000000 in
theorem runs_bad (way len reset now : Int) (p : Option Addr) (n c : Nat) (w : World) (h : n ≤ 100) (ho : ¬ okQ way len reset) :
    Calls Try.prog 3 #[QV way len reset, .int .i64 now, .slice p n c] w fun e w' => e = .returned (.bool true) ∧ Below w.heap.size w w' := by
  have HH := Lib.hid head_ret
  have HN := Lib.hid (fun W => qnew_no way len reset now W ho)
  have HC := Lib.hid (fun W => qcheck_no way len reset W ho)
  have HR := Lib.hid (fun W => right_ret way len reset W)
  rw [decide_eq_false ho] at HR
  have HI := Lib.hid (fun W => in_nil 0 0 W)
  have HRs := Lib.hid (fun W => reset_nil W)
  have HCo := Lib.hid (fun W => counts_nil W)
  have HRe := Lib.hid (fun W => resets_nil W)
  have HLo := Lib.hid (fun W => lost_nil W)
  have hq := fun W => run_eqC4 0 0 0 0 0 0 0 0 W true (by simp)
  have d : decide ((100 : Int) < (n : Int)) = false := decide_eq_false (by omega)
  have K0 := Lib.hid (QB.new w way len reset)
  clear h ho
  go_enter Try.func3, Try.ntmps3
  go_wp2_with (first
    | (go_at_call 13; (with_reducible refine (HH.out _).mono ?_); rintro e w1 ⟨rfl, hb⟩; have HB := Lib.hid (bTr (bAl (bRef w) _) hb); have K1 := Lib.hid (K0.out.below hb); obtain ⟨k0, k1, k2⟩ := K1.out.cells; clear hb)
    | (go_at_call 14; (with_reducible refine (HN.out _).mono ?_); rintro e w2 ⟨rfl, hb⟩; have HB2 := Lib.hid (bTr HB.out hb); have K2 := Lib.hid (K1.out.below hb); obtain ⟨q0, q1, q2⟩ := K2.out.cells; clear hb)
    | (go_at_call 15; (with_reducible refine (HR.out _).mono ?_); rintro e w3 ⟨rfl, rfl⟩)
    | (go_at_call 16; (with_reducible refine (HI.out _).mono ?_); rintro e w4 ⟨rfl, rfl⟩)
    | (go_at_call 17; (with_reducible refine (HRs.out _).mono ?_); rintro e w5 ⟨rfl, rfl⟩)
    | (go_at_call 18; (with_reducible refine (HC.out _).mono ?_); rintro e w6 ⟨rfl, hb⟩; have HB6 := Lib.hid (bTr HB2.out hb); clear hb)
    | (go_at_call 19; (with_reducible refine (HCo.out _).mono ?_); rintro e w7 ⟨rfl, hb⟩; have HB7 := Lib.hid (bTr HB6.out hb); clear hb)
    | (go_at_call 20; (with_reducible refine (HRe.out _).mono ?_); rintro e w8 ⟨rfl, rfl⟩)
    | (go_at_call 21; (with_reducible refine (HLo.out _).mono ?_); rintro e w9 ⟨rfl, rfl⟩))
  go_ret
  exact ⟨rfl, HB7.out⟩

/-- The program's state, the reference's in its box, and where they lie. -/
structure SrS (w : World) (b q : Nat) (m : SQ) (r : RQ) (v : Value) (W : World) : Prop where
  sq : Sq W b m
  box : RB W q r v
  la : LA W v r.had
  hb : w.heap.size ≤ b
  hq : w.heap.size ≤ q
  bel : Below w.heap.size w W
section
variable {w W W' : World} {b q : Nat} {m m2 : SQ} {r r2 : RQ} {v v2 : Value}
theorem SrS.ne (h : SrS w b q m r v W) : b ≠ q := by
  rintro rfl
  have h1 := h.sq
  have h2 := h.box
  unfold Sq at h1
  unfold RB at h2
  rw [h1] at h2
  injection h2 with h2
  injection h2 with _ h2 _
  revert h2
  decide
theorem SrS.below (h : SrS w b q m r v W) (hb : Below W.heap.size W W') : SrS w b q m r v W' :=
  ⟨h.sq.below hb, h.box.below hb, h.la.below hb, h.hb, h.hq, h.bel.trans (hb.mono h.bel.size)⟩
theorem la_row {w w' : World} {g : Nat} {cs : Array Value} {t : TypeId} {fr : Nat × Nat} {v : Value} {xs : List Int} (h : LA w v xs) (hg : w.heap[g]? = some (.cells cs t fr)) (ht : t ≠ 3) (hk : ∀ k, k ≠ g → k < w.heap.size → w'.heap[k]? = w.heap[k]?) : LA w' v xs :=
  h.keep fun b cur fr' hb => (hk b (by
    rintro rfl
    rw [hg] at hb
    injection hb with hb
    injection hb with _ hb _
    exact ht hb) (lt_of_heap hb)).trans hb
/-- The program's Seqr goes on. -/
theorem SrS.one (h : SrS w b q m r v W) (hm : Sq W' b m2) (hb : ButB b W W') : SrS w b q m2 r v W' :=
  ⟨hm, (hb.block q h.box.lt (fun e => h.ne e.symm)).trans h.box, la_row h.la h.sq (by decide) (fun k hk hl => hb.block k hl hk), h.hb, h.hq, h.bel.trans (hb.below h.hb h.sq.lt)⟩
/-- The reference's box is written. -/
theorem SrS.two (h : SrS w b q m r v W) (hl : LA W v2 r2.had) : SrS w b q m r2 v2 (W.setRow q (RA r2 v2)) :=
  ⟨(setRow_other W q b _ h.ne).trans h.sq, setRow_heap _ _ _ _ _ _ h.box, la_row hl h.box (by decide) (fun k hk _ => setRow_other W q k _ hk), h.hb, h.hq, below_setRow h.bel h.hq _⟩
end
def RunRel (w : World) (b q n : Nat) (kv : Value) (wr : World) : Prop :=
  ∃ (k : Nat) (m : SQ) (r : RQ) (v : Value), kv = .int .i64 (k : Int) ∧ k ≤ n ∧ SrS w b q m r v wr ∧ m.Good ∧ RR m r ∧ r.had.length ≤ k + 1
set_option maxRecDepth 20000 in
set_option maxHeartbeats 8000000 in
theorem runs_ok (way len reset now : Int) (p : Option Addr) (n c : Nat) (w : World) (hn : n ≤ 100) (h : okQ way len reset) (hnow : In64 now) (ha : SlArg 2 Oksandglasslaw13Step w (.slice p n c) n) :
    Calls Try.prog 3 #[QV way len reset, .int .i64 now, .slice p n c] w fun e w' => e = .returned (.bool true) ∧ Below w.heap.size w w' := by
  have HH := Lib.hid head_ret
  have d : decide ((100 : Int) < (n : Int)) = false := decide_eq_false (by omega)
  have HN := Lib.hid (fun W => qnew_ok way len reset now W h)
  have HR := Lib.hid (fun W => right_ret way len reset W)
  rw [decide_eq_true h] at HR
  have HRN := Lib.hid (fun W => rnew_ret way len reset now W)
  have G0 := Lib.hid (Q0_good (now := now) h hnow.1 hnow.2)
  have K0 := Lib.hid (QB.new w way len reset)
  have HA := Lib.hid ha
  have Hn := Lib.hid hn
  clear h ha hn
  go_enter Try.func3, Try.ntmps3
  go_wp2_with (first
    | (go_at_call 13; (with_reducible refine (HH.out _).mono ?_); rintro e w1 ⟨rfl, hb⟩; have HB := Lib.hid (bTr (bAl (bRef w) _) hb); have K1 := Lib.hid (K0.out.below hb); obtain ⟨k0, k1, k2⟩ := K1.out.cells; clear hb)
    | (go_at_call 14; (with_reducible refine (HN.out _).mono ?_); rintro e w2 ⟨b, rfl, hm, hb0, hb⟩; have HB2 := Lib.hid (bTr HB.out hb); have HM2 := Lib.hid hm; have HBB : Hid (w.heap.size ≤ b) := Lib.hid (by have := K1.out.lt; omega); have K2 := Lib.hid (K1.out.below hb); obtain ⟨q0, q1, q2⟩ := K2.out.cells; clear hm hb0 hb)
    | (go_at_call 15; (with_reducible refine (HR.out _).mono ?_); rintro e w3 ⟨rfl, rfl⟩)
    | (go_at_call 22; (with_reducible refine (HRN.out _).mono ?_); rintro e w4 ⟨rfl, hb⟩; have HB4 := Lib.hid (bTr HB2.out hb); have HM4 := Lib.hid (HM2.out.below hb); clear hb))
  go_loopw [92] (fun kv wr => RunRel w b w4.heap.size n kv wr) (fun kv _ => n - (intOf kv).toNat)
  case atStart => exact ⟨0, _, _, _, rfl, by omega, ⟨HM4.out.alloc _, heap_alloc_one' w4 _, LA.nil _, HBB.out, HB4.out.size, bAl HB4.out _⟩, G0.out, RR.start, by show (0 : Nat) ≤ 0 + 1; omega⟩
  case round =>
    clear HM4 HM2 HB4 HB2 K2 HB K1 K0 G0 HN HRN q0 q1 q2 k0 k1 k2
    obtain ⟨k, m, r, v, rfl, hk, hs, hg, hr, hl⟩ := hrel
    have HS := Lib.hid hs
    have HG := Lib.hid hg
    have HRR := Lib.hid hr
    have HLn := Lib.hid hl
    have hn100 := Hn.out
    obtain ⟨pv, cv, rfl⟩ := hs.la.slice
    clear hs hg hr hl
    rcases Nat.lt_or_ge k n with g1 | g1
    · have hd : decide ((k : Int) < (n : Int)) = true := decide_eq_true (by omega)
      obtain ⟨ab, o, F, rfl, hab, hF⟩ := SlArg.at HA.out (by omega)
      obtain ⟨⟨z0, z1, hz, b0, b1⟩, hlen, hc⟩ := hF k g1
      rw [hz] at hc
      have c0 := (HS.out.bel.cell (p := ⟨ab, o + k * 2 + 0, none⟩) hab).trans (hc 0 (by omega))
      have c1 := (HS.out.bel.cell (p := ⟨ab, o + k * 2 + 1, none⟩) hab).trans (hc 1 (by omega))
      rw [Nat.add_zero] at c0
      simp only [List.getElem?_cons_zero, List.getElem?_cons_succ] at c0 c1
      clear hF hc hlen hz F hab
      have HS1 := Lib.hid (HS.out.below (bAl (bRef wr) (.cells #[.int .i64 z0, .int .i64 z1] 42)))
      by_cases h2 : z1 = -2
      · subst h2
        have HRs := Lib.hid (reset_any HS1.out.sq)
        have HAn := Lib.hid (fun W => ranew_ret r pv r.had.length cv W)
        go_wp2_with (first
          | (go_at_call 17; (with_reducible refine HRs.out.mono ?_); rintro e x1 ⟨rfl, hm, hb⟩; have HS2 : Hid (SrS w b w4.heap.size m.anew r (.slice pv r.had.length cv) x1) := Lib.hid (HS1.out.one hm hb); clear hm hb)
          | ((with_reducible refine at_loadR ?_); refine wpList_loadR rfl _ rfl w4.heap.size _ _ rfl HS2.out.box ?_)
          | (go_at_call 23; (with_reducible refine (HAn.out _).mono ?_); rintro e x2 ⟨rfl, hb⟩; have HS3 := Lib.hid (HS2.out.below hb); clear hb)
          | ((with_reducible refine at_storeR ?_); refine wpList_storeR rfl _ _ rfl w4.heap.size r.anew _ none 0 0 _ rfl rfl HS3.out.box ?_))
        go_roundw
        case rel => exact ⟨k + 1, m.anew, r.anew, _, by go_num, by omega, HS3.out.two (LA.nil _), HG.out.anew, HRR.out.anew, by simp [RQ.anew]⟩
        case measure => simp [intOf]; omega
      have e2 : (z1 == -2) = false := by simpa using h2
      have key : ∃ (T f : Int) (m2 : SQ) (r2 : RQ), Calls Try.prog 24 #[RV r (.slice pv r.had.length cv), .int .i64 z0, .int .i64 z1] (wr.alloc (.cells #[.int .i64 z0, .int .i64 z1] 42)) (InPost (wr.alloc (.cells #[.int .i64 z0, .int .i64 z1] 42)) r2 T f) ∧ (∀ W, Sq W b m → Calls Try.prog 16 #[.pointer (some ⟨b, 0, none⟩), .int .i64 z0, .int .i64 z1] W fun e w' => e = .returned (.tuple #[.int .i64 T, .int .i64 f]) ∧ Sq w' b m2 ∧ ButB b W w') ∧ m2.Good ∧ RR m2 r2 ∧ r2.had.length ≤ k + 1 + 1 := by
        by_cases hs : z1 < 0 ∨ 65535 < z1
        · exact ⟨2, 1, m, r, rin_bad r pv _ cv z0 z1 _ HS1.out.la hs, fun W hW => (in_bad b z0 z1 W (by omega)).mono (fun e w' ⟨h1, h2⟩ => ⟨h1, by rw [h2]; exact hW, by rw [h2]; exact ButB.refl b W⟩), HG.out, HRR.out, by have := HLn.out; omega⟩
        · obtain ⟨r2, k1, k2, k3⟩ := rin_any (now := z0) (seq := z1) HRR.out HG.out pv _ cv _ HS1.out.la (by have := HLn.out; omega) b0.1 b0.2 (by omega) (by omega)
          exact ⟨_, _, _, r2, k1, fun W hW => in_ok hW HG.out z0 z1 b0.1 b0.2 (by omega) (by omega), HG.out.into b0.1 b0.2 (by omega) (by omega), k2, by have := HLn.out; omega⟩
      obtain ⟨T, f, m2, r2, hI, hP, hg2, hr2, hl2⟩ := key
      have HIn := Lib.hid hI
      have HPr := Lib.hid hP
      have HG2 := Lib.hid hg2
      have HR2 := Lib.hid hr2
      have HL2 := Lib.hid hl2
      have HQL := Lib.hid HS.out.box.lt
      have HST := Lib.hid (heap_alloc_one' wr (.cells #[.int .i64 z0, .int .i64 z1] 42))
      clear hI hP hg2 hr2 hl2 b0 b1 h2
      go_upto_region 22 with (first
        | ((with_reducible refine at_loadR ?_); refine wpList_loadR rfl _ rfl w4.heap.size _ _ rfl HS1.out.box ?_)
        | (go_at_call 24; (with_reducible refine HIn.out.mono ?_); rintro e x3 ⟨v3, rfl, hla, hb⟩; have HS3 := Lib.hid (HS1.out.below hb); have HST3 := Lib.hid ((hb.block wr.heap.size (by simp)).trans HST.out); have HLA := Lib.hid hla; obtain ⟨pv3, cv3, rfl⟩ := hla.slice; have HS4 := Lib.hid (HS3.out.below (bAl (bRef x3) (.cells (RA r2 (.slice pv3 r2.had.length cv3)) 39))); have HB4 : Hid (RB (x3.alloc (.cells (RA r2 (.slice pv3 r2.had.length cv3)) 39)) x3.heap.size r2 (.slice pv3 r2.had.length cv3)) := Lib.hid (heap_alloc_one' x3 _); clear hla hb)
        | ((with_reducible refine at_loadR ?_); refine wpList_loadR rfl _ rfl x3.heap.size _ _ rfl HB4.out ?_)
        | ((with_reducible refine at_storeR ?_); refine wpList_storeR rfl _ _ rfl w4.heap.size r2 _ pv3 r2.had.length cv3 _ rfl rfl HS4.out.box ?_; have HS5 := Lib.hid (HS4.out.two (r2 := r2) (HLA.out.below (bAl (bRef x3) _))); have hst5 := (setRow_other (x3.alloc (.cells (RA r2 (.slice pv3 r2.had.length cv3)) 39)) w4.heap.size wr.heap.size (RA r2 (.slice pv3 r2.had.length cv3)) (by have := HQL.out; omega)).trans (((bAl (bRef x3) (.cells (RA r2 (.slice pv3 r2.had.length cv3)) 39)).block _ (lt_of_heap HST3.out)).trans HST3.out); have s0 := cell_of_row _ _ 0 _ _ _ hst5; have s1 := cell_of_row _ _ 1 _ _ _ hst5; clear hst5)
        | (go_at_call 16; (with_reducible refine (HPr.out _ HS5.out.sq).mono ?_); rintro e x6 ⟨rfl, hm, hb⟩; have HS6 := Lib.hid (HS5.out.one hm hb); clear hm hb))
      obtain ⟨qv, hqv⟩ : ∃ qv, Value.slice pv3 r2.had.length cv3 = qv := ⟨_, rfl⟩
      have hS7 : SrS w b w4.heap.size m2 r2 qv x6 := by rw [← hqv]; exact HS6.out
      have HS7 := Lib.hid hS7
      have HCo := Lib.hid (fun W (hW : SrS w b w4.heap.size m2 r2 qv W) => counts_any hW.sq)
      have HRe : Hid (∀ W, SrS w b w4.heap.size m2 r2 qv W → Calls Try.prog 20 #[.pointer (some ⟨b, 0, none⟩)] W fun e w' => e = .returned (.int .i64 m2.resets) ∧ Below W.heap.size W w') := Lib.hid (fun W hW => (resets_any hW.sq).mono (fun e w' ⟨h1, h2⟩ => ⟨h1, by rw [h2]; exact bRef W⟩))
      have HLo : Hid (∀ W, SrS w b w4.heap.size m2 r2 qv W → Calls Try.prog 21 #[.pointer (some ⟨b, 0, none⟩)] W fun e w' => e = .returned (.int .i64 m2.lost) ∧ Below W.heap.size W w') := Lib.hid (fun W hW => (lost_any hW.sq).mono (fun e w' ⟨h1, h2⟩ => ⟨h1, by rw [h2]; exact bRef W⟩))
      have HAll : Hid (∀ W, SrS w b w4.heap.size m2 r2 qv W → W.cell? ⟨w4.heap.size, 7, none⟩ = some (.int .i64 m2.c0) ∧ W.cell? ⟨w4.heap.size, 8, none⟩ = some (.int .i64 m2.c1) ∧ W.cell? ⟨w4.heap.size, 9, none⟩ = some (.int .i64 m2.c2) ∧ W.cell? ⟨w4.heap.size, 10, none⟩ = some (.int .i64 m2.c3) ∧ W.cell? ⟨w4.heap.size, 11, none⟩ = some (.int .i64 m2.resets) ∧ W.cell? ⟨w4.heap.size, 12, none⟩ = some (.int .i64 m2.lost) ∧ SrS w b w4.heap.size m2 r2 qv W) := Lib.hid (fun W hW => by
        obtain ⟨⟨_, _, _, _, _, _, _, y7, y8, y9, y10, y11, y12⟩, _⟩ := hW.box.cells
        rw [← HR2.out.c0, ← HR2.out.c1, ← HR2.out.c2, ← HR2.out.c3, ← HR2.out.resets, ← HR2.out.lost]
        exact ⟨y7, y8, y9, y10, y11, y12, hW⟩)
      obtain ⟨t7, t8, t9, t10, t11, t12, -⟩ := HAll.out x6 hS7
      clear hS7 HS6 HS5 HS4 HS3 HLA HB4 s0 s1 HST3
      generalize m2.c0 = v0 at *
      generalize m2.c1 = v1 at *
      generalize m2.c2 = v2 at *
      generalize m2.c3 = v3 at *
      generalize m2.resets = v4 at *
      generalize m2.lost = v5 at *
      have hq := fun W => run_neC4 v0 v1 v2 v3 v0 v1 v2 v3 W true (by simp)
      go_region_held3 (fun W => W.cell? ⟨w4.heap.size, 7, none⟩ = some (.int .i64 v0) ∧ W.cell? ⟨w4.heap.size, 8, none⟩ = some (.int .i64 v1) ∧ W.cell? ⟨w4.heap.size, 9, none⟩ = some (.int .i64 v2) ∧ W.cell? ⟨w4.heap.size, 10, none⟩ = some (.int .i64 v3) ∧ W.cell? ⟨w4.heap.size, 11, none⟩ = some (.int .i64 v4) ∧ W.cell? ⟨w4.heap.size, 12, none⟩ = some (.int .i64 v5) ∧ SrS w b w4.heap.size m2 r2 qv W)
        (first | (refine ⟨?_, ?_, ?_, ?_, ?_, ?_, ?_⟩ <;> first | go_keep | exact HS7.out.below (bDr1 (bRef _)) | exact HS7.out) | (go_split_ands; exact HAll.out _ (SrS.below (by assumption) hb1)))
        (first
          | (go_split_ands; go_at_call 19; (with_reducible refine (HCo.out _ (by assumption)).mono ?_); rintro e w1x ⟨rfl, hb1⟩)
          | (go_split_ands; go_at_call 20; (with_reducible refine (HRe.out _ (by assumption)).mono ?_); rintro e w1x ⟨rfl, hb1⟩)
          | (go_split_ands; go_at_call 21; (with_reducible refine (HLo.out _ (by assumption)).mono ?_); rintro e w1x ⟨rfl, hb1⟩))
      all_goals
        go_split_ands
        go_wp2_with fail
        go_roundw
        case rel => exact ⟨k + 1, m2, r2, qv, by go_num, by omega, by assumption, HG2.out, HR2.out, HL2.out⟩
        case measure => simp [intOf]; omega
    · obtain rfl : k = n := by omega
      have hd : decide ((k : Int) < (k : Int)) = false := decide_eq_false (by omega)
      go_wp2_with fail
      go_ret
      exact ⟨rfl, HS.out.bel⟩

theorem seqrRuns_holds : Rows.SeqrRunsSaid := seqrRuns_of (fun way len reset now v n w _ _ _ hnow ha => by
  obtain ⟨p, c, rfl⟩ := ha.slice
  by_cases hn : 100 < n
  · exact runs_many way len reset now p n c w hn
  by_cases h : okQ way len reset
  · exact runs_ok way len reset now p n c w (by omega) h hnow ha
  · exact runs_bad way len reset now p n c w (by omega) h)

end Go.Proofs.Ytkapklgimcmhdaa
