/- The reference's clock: what it tells. -/
import Derived.Test.YtffjbngelapmmaaOsRef
import Derived.Deep.RegionHeld3
import Derived.IntWalk
namespace Go.Proofs.Ytffjbngelapmmaa
open Go.RowKit Go.Joins

def TellSt (w : World) (va vr : Value) (a r k : Nat) (ta tr : Int) (W : World) : Prop :=
  W.cell? ⟨w.heap.size, 2, none⟩ = some va ∧ W.cell? ⟨w.heap.size, 3, none⟩ = some vr ∧ W.cell? ⟨a, k, none⟩ = some (.int .i64 ta) ∧ W.cell? ⟨r, k, none⟩ = some (.int .i64 tr) ∧ Below w.heap.size w W ∧ w.heap.size < W.heap.size
theorem TellSt.below {w W W' : World} {va vr : Value} {a r k : Nat} {ta tr : Int} (ha : a < w.heap.size) (hr : r < w.heap.size) (h : TellSt w va vr a r k ta tr W) (hb : Below W.heap.size W W') : TellSt w va vr a r k ta tr W' := by
  obtain ⟨h1, h2, h3, h4, h5, h6⟩ := h
  have hs := h5.size
  exact ⟨(hb.cell h6).trans h1, (hb.cell h6).trans h2, (hb.cell (by show a < _; omega)).trans h3, (hb.cell (by show r < _; omega)).trans h4, bTr h5 hb, Nat.lt_of_lt_of_le h6 hb.size⟩
def TellRel (w : World) (s : Int) (ts : List (Int × Int)) (x : Int) (va vr : Value) (xv kv : Value) (wr : World) : Prop :=
  ∃ k : Nat, k ≤ ix ts x ∧ kv = .int .i64 (k : Int) ∧ xv = .int .i64 (told s ts k) ∧ wr.cell? ⟨w.heap.size, 2, none⟩ = some va ∧ wr.cell? ⟨w.heap.size, 3, none⟩ = some vr ∧ Below w.heap.size w wr ∧ w.heap.size < wr.heap.size
theorem tell_here {s : Int} {ts : List (Int × Int)} (g : Good ts) {x : Int} (h0 : 0 ≤ x) {k : Nat} (hk : k ≤ ix ts x) (h : k + 1 < ts.length → x < tA ts (k + 1)) : told s ts k + run (x - tA ts k) (tR ts k) = tell s ts x := by
  have hl := leg_ix g h0
  rcases Nat.lt_or_ge k (ix ts x) with hlt | hge
  · have h1 := h (by have := hl.1; omega)
    have h2 := g.mono (ix ts x) (k + 1) (by omega) hl.1
    have h3 := hl.2.1
    omega
  · obtain rfl : k = ix ts x := by omega
    rfl
theorem tell_turn {s : Int} {ts : List (Int × Int)} (g : Good ts) {x : Int} (h0 : 0 ≤ x) {k : Nat} (hk : k + 1 < ts.length) (h : tA ts (k + 1) = x) : told s ts (k + 1) = tell s ts x := by
  have hl : Leg ts x (k + 1) := ⟨hk, by omega, fun j h1 h2 => by have := g.smono h1 h2; omega⟩
  rw [tell_leg g h0 hl]
  unfold tellBy
  rw [h, Int.sub_self, run_zero]
  omega
theorem ix_up {ts : List (Int × Int)} (g : Good ts) {x : Int} (h0 : 0 ≤ x) {k : Nat} (hk : k + 1 < ts.length) (h : tA ts (k + 1) ≤ x) : k + 1 ≤ ix ts x := by
  rcases Nat.lt_or_ge (ix ts x) (k + 1) with hlt | hge
  · have := (leg_ix g h0).2.2 (k + 1) hlt hk
    omega
  · exact hge

set_option maxHeartbeats 4000000 in
theorem rtell_ok {va vr : Value} {s g : Int} {ts : List (Int × Int)} {w : World} (h : RClk w va vr ts) (hg : Good ts) (hs : Start s) (x : Int) (h0 : 0 ≤ x) (h1 : x ≤ 1099511627776) :
    Calls Try.prog 16 #[.agg #[.int .i64 s, .int .i64 g, va, vr], .int .i64 x] w fun e w' => e = .returned (.int .i64 (tell s ts x)) ∧ Below w.heap.size w w' := by
  obtain ⟨a, r, c, d, rfl, rfl, hla, hlr, hc⟩ := h.cells hg.pos
  obtain ⟨n, hn⟩ : ∃ n, ts.length = n := ⟨_, rfl⟩
  have HN := Lib.hid hn
  have HC := Lib.hid hc
  have HG := Lib.hid hg
  have HS := Lib.hid hs
  have hn64 : n ≤ 64 := by rw [← hn]; exact hg.len
  rw [hn]
  clear h hc hg hn hs
  have HB : Below w.heap.size w (w.alloc (.cells #[.int .i64 s, .int .i64 g, .slice (some ⟨a, 0, none⟩) n c, .slice (some ⟨r, 0, none⟩) n d] 34)) := bAl (bRef w) _
  obtain ⟨_, _, c2, c3⟩ := box4 w (.int .i64 s) (.int .i64 g) (.slice (some ⟨a, 0, none⟩) n c) (.slice (some ⟨r, 0, none⟩) n d)
  replace HB := Lib.hid HB
  go_enter Try.func16, Try.ntmps16
  go_wp2_with fail
  go_loopw [5, 13] (fun xv kv wr => TellRel w s ts x (.slice (some ⟨a, 0, none⟩) n c) (.slice (some ⟨r, 0, none⟩) n d) xv kv wr) (fun _ kv _ => n - (intOf kv).toNat)
  case atStart => exact ⟨0, by omega, rfl, rfl, c2, c3, HB.out, by simp⟩
  case round =>
    clear c2 c3 HB
    obtain ⟨k, hk, rfl, rfl, c2, c3, hb, hsz⟩ := hrel
    have hl := leg_ix HG.out h0
    have hkn : k < n := by have := hl.1; rw [HN.out] at this; omega
    have hkl : k < ts.length := by rw [HN.out]; exact hkn
    have e1 := (hb.cell hla).trans (HC.out k hkl).1
    have e2 := (hb.cell hlr).trans (HC.out k hkl).2
    have hta0 := HG.out.nonneg hkl
    have htx : tA ts k ≤ x := by have := HG.out.mono (ix ts x) k hk hl.1; have := hl.2.1; omega
    have hrt := HG.out.rate k hkl
    have htd := told_in HG.out HS.out hkl
    have hd : decide ((k : Int) < (n : Int)) = true := decide_eq_true (by omega)
    have HK := Lib.hid hk
    clear hl hk hd
    have hd : decide ((k : Int) < (n : Int)) = true := decide_eq_true (by omega)
    have hw1 : IntKind.i64.wrap ((k : Int) + 1) = (k : Int) + 1 := IntWalk.i64_in _ (by omega)
    rcases Nat.lt_or_ge (k + 1) n with hlt | hge
    · have hkl1 : k + 1 < ts.length := by rw [HN.out]; exact hlt
      have hd1 : decide ((k : Int) + 1 < (n : Int)) = true := decide_eq_true (by omega)
      have e3 := (hb.cell hla).trans (HC.out (k + 1) hkl1).1
      have hinc := HG.out.inc k hkl1
      have htop := HG.out.top (k + 1) hkl1
      by_cases hcmp : tA ts (k + 1) ≤ x
      · have HU := Lib.hid (ix_up HG.out h0 hkl1 hcmp)
        have HR := rrun_ret (d := tA ts (k + 1) - tA ts k) (r := tR ts k) (by omega) (by omega) (by omega) (by omega)
        have htd1 := told_in HG.out HS.out hkl1
        have hT : told s ts k + run (tA ts (k + 1) - tA ts k) (tR ts k) = told s ts (k + 1) := rfl
        have HT := Lib.hid (fun hx : tA ts (k + 1) = x => tell_turn (s := s) HG.out h0 hkl1 hx)
        generalize told s ts k = tk at *
        generalize hTK : told s ts (k + 1) = tk1 at *
        have HTK := Lib.hid hTK
        clear hTK
        generalize tA ts k = ta at *
        generalize tA ts (k + 1) = tb at *
        generalize tR ts k = tr at *
        have hw2 : IntKind.i64.wrap (tb - ta) = tb - ta := IntWalk.i64_in _ (by omega)
        generalize run (tb - ta) tr = rn at *
        have hw3 : IntKind.i64.wrap (tk + rn) = tk1 := by rw [hT]; exact IntWalk.i64_in _ (by omega)
        have HB := Lib.hid hb
        clear hT hb
        rcases Int.lt_or_eq_of_le hcmp with hlt' | heq
        · have hd2 : decide (tb ≤ x) = true := decide_eq_true hcmp
          have hd3 : decide (tb = x) = false := decide_eq_false (by omega)
          clear hcmp
          go_wp2_with fail
          go_region_held3 (fun W => W.cell? ⟨w.heap.size, 2, none⟩ = some (.slice (some ⟨a, 0, none⟩) n c) ∧ W.cell? ⟨w.heap.size, 3, none⟩ = some (.slice (some ⟨r, 0, none⟩) n d) ∧ W.cell? ⟨a, k, none⟩ = some (.int .i64 ta) ∧ W.cell? ⟨r, k, none⟩ = some (.int .i64 tr) ∧ Below w.heap.size w W ∧ w.heap.size < W.heap.size)
            (first | (refine ⟨?_, ?_, ?_, ?_, ?_, ?_⟩ <;> first | go_keep | exact HB.out.drew) | (go_split_ands; exact TellSt.below hla hlr ⟨by assumption, by assumption, by assumption, by assumption, by assumption, by assumption⟩ hb1))
            (first | (go_at_call 28; (with_reducible refine (HR.go _).mono ?_); rintro e w1 ⟨rfl, hb1⟩))
          go_split_ands
          go_wp2_with fail
          go_roundw
          case rel => exact ⟨k + 1, HU.out, by go_num, by rw [HTK.out], by assumption, by assumption, by assumption, by assumption⟩
          case measure => simp [intOf]; omega
        · subst heq
          have hd2 : decide (tb ≤ tb) = true := decide_eq_true (by omega)
          clear hcmp
          go_wp2_with fail
          go_region_held3 (fun W => W.cell? ⟨w.heap.size, 2, none⟩ = some (.slice (some ⟨a, 0, none⟩) n c) ∧ W.cell? ⟨w.heap.size, 3, none⟩ = some (.slice (some ⟨r, 0, none⟩) n d) ∧ W.cell? ⟨a, k, none⟩ = some (.int .i64 ta) ∧ W.cell? ⟨r, k, none⟩ = some (.int .i64 tr) ∧ Below w.heap.size w W ∧ w.heap.size < W.heap.size)
            (first | (refine ⟨?_, ?_, ?_, ?_, ?_, ?_⟩ <;> first | go_keep | exact HB.out.drew) | (go_split_ands; exact TellSt.below hla hlr ⟨by assumption, by assumption, by assumption, by assumption, by assumption, by assumption⟩ hb1))
            (first | (go_at_call 28; (with_reducible refine (HR.go _).mono ?_); rintro e w1 ⟨rfl, hb1⟩))
          go_split_ands
          go_wp2_with fail
          go_ret
          exact ⟨by rw [← HT.out trivial]; rfl, by assumption⟩
      · have hd2 : decide (tA ts (k + 1) ≤ x) = false := decide_eq_false hcmp
        have HX := tell_here (s := s) HG.out h0 HK.out (fun _ => by omega)
        have HR := rrun_ret (d := x - tA ts k) (r := tR ts k) (by omega) (by omega) (by omega) (by omega)
        have htl := tell_in HG.out HS.out h0 h1
        generalize told s ts k = tk at *
        generalize hTX : tell s ts x = tx at *
        have HTX := Lib.hid hTX
        clear hTX
        generalize tA ts k = ta at *
        generalize tA ts (k + 1) = tb at *
        generalize tR ts k = tr at *
        have hw2 : IntKind.i64.wrap (x - ta) = x - ta := IntWalk.i64_in _ (by omega)
        generalize run (x - ta) tr = rn at *
        have hw3 : IntKind.i64.wrap (tk + rn) = tx := by rw [HX]; exact IntWalk.i64_in _ (by omega)
        have HB := Lib.hid hb
        clear HX hb hcmp
        go_wp2_with fail
        go_region_held3 (fun W => W.cell? ⟨w.heap.size, 2, none⟩ = some (.slice (some ⟨a, 0, none⟩) n c) ∧ W.cell? ⟨w.heap.size, 3, none⟩ = some (.slice (some ⟨r, 0, none⟩) n d) ∧ W.cell? ⟨a, k, none⟩ = some (.int .i64 ta) ∧ W.cell? ⟨r, k, none⟩ = some (.int .i64 tr) ∧ Below w.heap.size w W ∧ w.heap.size < W.heap.size)
          (first | (refine ⟨?_, ?_, ?_, ?_, ?_, ?_⟩ <;> first | go_keep | exact HB.out.drew) | (go_split_ands; exact TellSt.below hla hlr ⟨by assumption, by assumption, by assumption, by assumption, by assumption, by assumption⟩ hb1))
          (first | (go_at_call 28; (with_reducible refine (HR.go _).mono ?_); rintro e w1 ⟨rfl, hb1⟩))
        go_split_ands
        go_wp2_with fail
        go_ret
        exact ⟨by rw [HTX.out]; rfl, by assumption⟩
    · have hd1 : decide ((k : Int) + 1 < (n : Int)) = false := decide_eq_false (by omega)
      have HX := tell_here (s := s) HG.out h0 HK.out (fun hh => by rw [HN.out] at hh; omega)
      have HR := rrun_ret (d := x - tA ts k) (r := tR ts k) (by omega) (by omega) (by omega) (by omega)
      have htl := tell_in HG.out HS.out h0 h1
      generalize told s ts k = tk at *
      generalize hTX : tell s ts x = tx at *
      have HTX := Lib.hid hTX
      clear hTX
      generalize tA ts k = ta at *
      generalize tR ts k = tr at *
      have hw2 : IntKind.i64.wrap (x - ta) = x - ta := IntWalk.i64_in _ (by omega)
      generalize run (x - ta) tr = rn at *
      have hw3 : IntKind.i64.wrap (tk + rn) = tx := by rw [HX]; exact IntWalk.i64_in _ (by omega)
      have HB := Lib.hid hb
      clear HX hb
      go_wp2_with fail
      go_region_held3 (fun W => W.cell? ⟨w.heap.size, 2, none⟩ = some (.slice (some ⟨a, 0, none⟩) n c) ∧ W.cell? ⟨w.heap.size, 3, none⟩ = some (.slice (some ⟨r, 0, none⟩) n d) ∧ W.cell? ⟨a, k, none⟩ = some (.int .i64 ta) ∧ W.cell? ⟨r, k, none⟩ = some (.int .i64 tr) ∧ Below w.heap.size w W ∧ w.heap.size < W.heap.size)
        (first | (refine ⟨?_, ?_, ?_, ?_, ?_, ?_⟩ <;> first | go_keep | exact HB.out.drew) | (go_split_ands; exact TellSt.below hla hlr ⟨by assumption, by assumption, by assumption, by assumption, by assumption, by assumption⟩ hb1))
        (first | (go_at_call 28; (with_reducible refine (HR.go _).mono ?_); rintro e w1 ⟨rfl, hb1⟩))
      go_split_ands
      go_wp2_with fail
      go_ret
      exact ⟨by rw [HTX.out]; rfl, by assumption⟩

end Go.Proofs.Ytffjbngelapmmaa
