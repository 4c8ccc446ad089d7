/- The document's example of package fdb. -/
import Derived.Test.YtkbodcgamfkegaaFdLearn
namespace Go.Proofs.Ytkbodcgamfkegaa
open Go.RowKit Go.Joins Go.Maps Go.MapKept Go.ChangeMaps Go.WideMaps

def hp : Pl := (5, ⟨2, 0, 0, 0, 0, 0⟩)
theorem hp_good : hp.Good := ⟨⟨by decide, by decide⟩, ⟨by decide, by decide, by decide, by decide, by decide, by decide⟩⟩
def h1S (F : Nat → Int) : TS := ⟨3, 9, F, putL [] 5 (7, 4), [], []⟩
def h2S (F : Nat → Int) : TS := ⟨3, 9, F, putL [] 5 (7, 4), [], putL [] hp (1, 0)⟩
theorem h1_out (F : Nat → Int) : outP (h1S F) 0 hp = 6 := by kernel_rfl
theorem h1_out2 (F : Nat → Int) : bits .and .i64 (outP (h1S F) 0 hp) (vlanV (h1S F) hp.1).2 = 4 := by kernel_rfl
theorem h2_out (F : Nat → Int) : outP (h2S F) 0 hp = 2 := by kernel_rfl
theorem h2_out2 (F : Nat → Int) : bits .and .i64 (outP (h2S F) 0 hp) (vlanV (h2S F) hp.1).2 = 0 := by kernel_rfl
theorem h1_ok (F : Nat → Int) : OkE (h1S F) := ⟨fun x h => by simp [h1S] at h, fun x h => by simp [h1S] at h⟩
theorem h2_ok (F : Nat → Int) : OkE (h2S F) := ⟨fun x h => by simp [h2S, putL, delL] at h; subst h; decide, fun x h => by simp [h2S] at h⟩
theorem head_cells {B m g : Nat} {w W : World} {b : TB} {s : TS} (h : HB B b m s w g hp W) : W.cell? ⟨g, 0, none⟩ = some (.int .i64 5) ∧ W.cell? ⟨g, 1, none⟩ = some (.int .u8 2) ∧ W.cell? ⟨g, 2, none⟩ = some (.int .u8 0) ∧ W.cell? ⟨g, 3, none⟩ = some (.int .u8 0) ∧ W.cell? ⟨g, 4, none⟩ = some (.int .u8 0) ∧ W.cell? ⟨g, 5, none⟩ = some (.int .u8 0) ∧ W.cell? ⟨g, 6, none⟩ = some (.int .u8 0) := by
  obtain ⟨c0, c1, c2, c3, c4, k0, k1, k2, k3, k4, k5, k6, -⟩ := h.all
  exact ⟨k0, k1, k2, k3, k4, k5, k6⟩
set_option maxHeartbeats 1000000 in
theorem head_ret (w : World) : Calls Try.prog 7 #[] w fun e w' => e = .returned (.bool true) ∧ Below w.heap.size w w' := by
  have HN : Hid (∀ W, Calls Try.prog 8 #[.int .i64 3, .int .i64 9] W fun e w' => ∃ b F, e = .returned (.tuple #[.pointer (some ⟨b.t, 0, none⟩), .int .i64 0]) ∧ Tab W.heap.size w' b 0 ⟨3, 9, F, [], [], []⟩ ∧ Below W.heap.size W w') := Lib.hid (fun W => new_ok 3 9 W (by decide) (by decide) (by decide) (by decide))
  have HV : Hid (∀ B W b F, Tab B W b 0 ⟨3, 9, F, [], [], []⟩ → Calls Try.prog 17 #[.pointer (some ⟨b.t, 0, none⟩), .int .i64 5, .agg #[.int .i64 7, .int .i64 4]] W fun e w' => e = .returned (.int .i64 0) ∧ Tab B w' b 1 (h1S F) ∧ ButB b.v W w') :=
    Lib.hid (fun B W b F h => setVlan_ok h (by decide) 5 7 4 (by decide) (by decide) (by decide) (by show (7 : Int) < ((2 ^ 3 : Nat) : Int); decide) (by kernel_rfl))
  have H1 : Hid (∀ B W b F, Tab B W b 1 (h1S F) → Calls Try.prog 11 #[.pointer (some ⟨b.t, 0, none⟩), .int .i64 0, .agg #[.int .i64 5, .int .u8 2, .int .u8 0, .int .u8 0, .int .u8 0, .int .u8 0, .int .u8 0]] W fun e w' => e = .returned (.tuple #[.int .i64 6, .int .i64 4]) ∧ Below W.heap.size W w') := Lib.hid (fun B W b F h => by
    have k := out_any h 0 (by show 0 < 3; decide) hp hp_good (h1_ok F)
    rw [h1_out2, h1_out] at k
    exact k)
  have HL : Hid (∀ B W b F, Tab B W b 1 (h1S F) → Calls Try.prog 15 #[.pointer (some ⟨b.t, 0, none⟩), .agg #[.int .i64 5, .int .u8 2, .int .u8 0, .int .u8 0, .int .u8 0, .int .u8 0, .int .u8 0], .int .i64 1, .int .i64 0] W fun e w' => e = .returned (.int .i64 0) ∧ Tab B w' b 2 (h2S F) ∧ ButB b.e W w') :=
    Lib.hid (fun B W b F h => learn_ok h (by decide) hp hp_good (by decide) (by decide) 1 (by show 1 < 3; decide) 0 (by decide) (by rfl) (h1_ok F) (.inr (by show ((0 : Nat) : Int) < 9; decide)))
  have H2 : Hid (∀ B W b F, Tab B W b 2 (h2S F) → Calls Try.prog 11 #[.pointer (some ⟨b.t, 0, none⟩), .int .i64 0, .agg #[.int .i64 5, .int .u8 2, .int .u8 0, .int .u8 0, .int .u8 0, .int .u8 0, .int .u8 0]] W fun e w' => e = .returned (.tuple #[.int .i64 2, .int .i64 0]) ∧ Below W.heap.size W w') := Lib.hid (fun B W b F h => by
    have k := out_any h 0 (by show 0 < 3; decide) hp hp_good (h2_ok F)
    rw [h2_out2, h2_out] at k
    exact k)
  go_enter Try.func7, Try.ntmps7
  go_wp2_with (first
    | (go_at_call 8; (with_reducible refine (HN.out _).mono ?_); rintro e w1 ⟨b, F, rfl, ht, hb⟩; have T1 := Lib.hid ht; have HB1 := Lib.hid hb; clear ht hb)
    | (go_at_call 17; (with_reducible refine (HV.out _ _ b F (T1.out.below (bAl (bRef w1) _))).mono ?_); rintro e w2 ⟨rfl, ht, hb⟩; have Q1 : HB w.heap.size b 0 ⟨3, 9, F, [], [], []⟩ w w1.heap.size hp _ := ⟨T1.out.below (bAl (bRef w1) _), heap_alloc_one w1 _, bTr HB1.out (bAl (bRef w1) _)⟩; have Q2 := Lib.hid (Q1.but ht hb (Q1.tab.nbox Q1.box).1 Q1.tab.bv Q1.tab.lt.2.2.1); obtain ⟨a0, a1, a2, a3, a4, a5, a6⟩ := head_cells Q2.out; clear ht hb Q1)
    | (go_at_call 11; (with_reducible refine (H1.out _ _ b F Q2.out.tab).mono ?_); rintro e w3 ⟨rfl, hb⟩; have Q3 := Lib.hid (Q2.out.below hb); obtain ⟨d0, d1, d2, d3, d4, d5, d6⟩ := head_cells Q3.out; clear hb)
    | (go_at_call 15; (with_reducible refine (HL.out _ _ b F Q3.out.tab).mono ?_); rintro e w4 ⟨rfl, ht, hb⟩; have Q4 := Lib.hid (Q3.out.but ht hb (Q3.out.tab.nbox Q3.out.box).2.2 Q3.out.tab.be Q3.out.tab.lt.2.2.2.2); obtain ⟨f0, f1, f2, f3, f4, f5, f6⟩ := head_cells Q4.out; clear ht hb)
    | (go_at_call 11; (with_reducible refine (H2.out _ _ b F Q4.out.tab).mono ?_); rintro e w5 ⟨rfl, hb⟩; have HB5 := Lib.hid (bTr Q4.out.bel hb); clear hb))
  go_ret
  exact ⟨rfl, HB5.out⟩

end Go.Proofs.Ytkbodcgamfkegaa
