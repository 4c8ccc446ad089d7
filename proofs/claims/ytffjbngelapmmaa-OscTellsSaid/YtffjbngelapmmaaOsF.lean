/- Package osc: At, Mark, Rate. -/
import Derived.Test.YtffjbngelapmmaaOsE
namespace Go.Proofs.Ytffjbngelapmmaa
open Go.RowKit Go.Joins

def Start (s : Int) : Prop := -1152921504606846976 ≤ s ∧ s ≤ 1152921504606846976
theorem tell_in {s : Int} {ts : List (Int × Int)} (g : Good ts) (hs : Start s) {x : Int} (h0 : 0 ≤ x) (h1 : x ≤ 1099511627776) : -1152921504606846976 ≤ tell s ts x ∧ tell s ts x ≤ 1225542048598196224 := by
  have h := tell_bd (s := s) g h0
  unfold Start at hs
  omega
theorem legat_tell {s : Int} {ts : List (Int × Int)} (g : Good ts) (hs : Start s) {x : Int} (h0 : 0 ≤ x) (h1 : x ≤ 1099511627776) :
    Ret 24 #[.agg #[.int .i64 (tA ts (ix ts x)), .int .i64 (tR ts (ix ts x)), .int .i64 (told s ts (ix ts x))], .int .i64 x] (.int .i64 (tell s ts x)) := by
  have hl := leg_ix g h0
  have h2 := g.nonneg hl.1
  have h3 := hl.2.1
  have h4 := g.rate _ hl.1
  have h5 := tell_in g hs h0 h1
  refine legat_ret _ _ _ _ (x - tA ts (ix ts x)) _ (by unfold wrap64; omega) (by omega) (by omega) (by omega) (by omega) ?_
  show wrap64 (tell s ts x) = tell s ts x
  unfold wrap64; omega

theorem at_nil (x : Int) (w : World) :
    Calls Try.prog 12 #[.pointer none, .int .i64 x] w fun e w' => e = .returned (.tuple #[.int .i64 0, .int .i64 1]) ∧ Below w.heap.size w w' := by
  have H := leg_nil x
  go_enter Try.func12, Try.ntmps12
  go_wp2_with (go_at_call 23; (with_reducible refine (H _).mono ?_); rintro e w1 ⟨rfl, hb⟩; have HB := Lib.hid hb; clear hb)
  go_ret2
  exact ⟨rfl, bAl HB.out _⟩
theorem at_bad {B : Nat} {v : Value} {s g : Int} {ts : List (Int × Int)} {w : World} (h : Clk B w v s g ts) (hg : Good ts) (x : Int) (hx : x < 0 ∨ 1099511627776 < x) :
    Calls Try.prog 12 #[v, .int .i64 x] w fun e w' => e = .returned (.tuple #[.int .i64 0, .int .i64 1]) ∧ Below w.heap.size w w' := by
  have H := Lib.hid (leg_bad h hg x hx)
  clear h hx
  go_enter Try.func12, Try.ntmps12
  go_wp2_with (go_at_call 23; (with_reducible refine H.out.mono ?_); rintro e w1 ⟨rfl, hb⟩; have HB := Lib.hid hb; clear hb)
  go_ret2
  exact ⟨rfl, bAl HB.out _⟩
theorem at_ok {B : Nat} {v : Value} {s g : Int} {ts : List (Int × Int)} {w : World} (h : Clk B w v s g ts) (hg : Good ts) (hs : Start s) (x : Int) (h0 : 0 ≤ x) (h1 : x ≤ 1099511627776) (y : Int) (hy : tell s ts x = y) :
    Calls Try.prog 12 #[v, .int .i64 x] w fun e w' => e = .returned (.tuple #[.int .i64 y, .int .i64 0]) ∧ Below w.heap.size w w' := by
  have H := leg_ok h hg x h0 h1 _ _ _ rfl rfl rfl
  have HL := legat_tell hg hs h0 h1
  rw [hy] at HL
  generalize tA ts (ix ts x) = a at *
  generalize tR ts (ix ts x) = r at *
  generalize told s ts (ix ts x) = t at *
  have HH := Lib.hid H
  clear h hg hs h0 h1 hy H
  have two : ∀ W : World, (W.alloc (.cells #[.int .i64 a, .int .i64 r, .int .i64 t] 57)).cell? ⟨W.heap.size, 0, none⟩ = some (.int .i64 a) := fun W => cell_of_row _ _ _ _ _ _ (heap_alloc_new W _)
  go_enter Try.func12, Try.ntmps12
  go_wp2_with (first
    | (go_at_call 23; (with_reducible refine HH.out.mono ?_); rintro e w1 ⟨rfl, hb⟩; have HB := Lib.hid hb; clear hb)
    | (go_at_call 24; (with_reducible refine (HL.go _).mono ?_); rintro e w2 ⟨rfl, hb⟩; have HB2 := Lib.hid hb; clear hb))
  go_ret2
  exact ⟨rfl, bTr (bAl HB.out _) HB2.out⟩

theorem rate_bad {B : Nat} {v : Value} {s g : Int} {ts : List (Int × Int)} {w : World} (h : Clk B w v s g ts) (hg : Good ts) (x : Int) (hx : x < 0 ∨ 1099511627776 < x) :
    Calls Try.prog 15 #[v, .int .i64 x] w fun e w' => e = .returned (.tuple #[.int .i64 0, .int .i64 1]) ∧ Below w.heap.size w w' := by
  have H := Lib.hid (leg_bad h hg x hx)
  clear h hx
  go_enter Try.func15, Try.ntmps15
  go_wp2_with (go_at_call 23; (with_reducible refine H.out.mono ?_); rintro e w1 ⟨rfl, hb⟩; have HB := Lib.hid hb; clear hb)
  go_ret2
  exact ⟨rfl, bAl HB.out _⟩
theorem rate_ok {B : Nat} {v : Value} {s g : Int} {ts : List (Int × Int)} {w : World} (h : Clk B w v s g ts) (hg : Good ts) (x : Int) (h0 : 0 ≤ x) (h1 : x ≤ 1099511627776) (y : Int) (hy : y = tR ts (ix ts x)) :
    Calls Try.prog 15 #[v, .int .i64 x] w fun e w' => e = .returned (.tuple #[.int .i64 y, .int .i64 0]) ∧ Below w.heap.size w w' := by
  have H := leg_ok h hg x h0 h1 _ _ _ rfl hy rfl
  generalize tA ts (ix ts x) = a at *
  generalize told s ts (ix ts x) = t at *
  have HH := Lib.hid H
  clear h hg h0 h1 hy H
  go_enter Try.func15, Try.ntmps15
  go_wp2_with (go_at_call 23; (with_reducible refine HH.out.mono ?_); rintro e w1 ⟨rfl, hb⟩; have HB := Lib.hid hb; clear hb)
  go_ret2
  exact ⟨rfl, bAl HB.out _⟩

theorem mark_bad {B : Nat} {v : Value} {s g : Int} {ts : List (Int × Int)} {w : World} (h : Clk B w v s g ts) (hg : Good ts) (x : Int) (hx : x < 0 ∨ 1099511627776 < x) :
    Calls Try.prog 14 #[v, .int .i64 x] w fun e w' => e = .returned (.tuple #[.int .i64 0, .int .i64 1]) ∧ Below w.heap.size w w' := by
  have H := Lib.hid (at_bad h hg x hx)
  clear h hx
  go_enter Try.func14, Try.ntmps14
  go_wp2_with (go_at_call 12; (with_reducible refine H.out.mono ?_); rintro e w1 ⟨rfl, hb⟩; have HB := Lib.hid hb; clear hb)
  go_ret2
  exact ⟨rfl, HB.out⟩
/-- With its grain. -/
def mark (s g : Int) (ts : List (Int × Int)) (x : Int) : Int := tell s ts x - tell s ts x % (g * 65536)
theorem mark_ok {B : Nat} {v : Value} {s g : Int} {ts : List (Int × Int)} {w : World} (h : Clk B w v s g ts) (hg : Good ts) (hs : Start s) (g1 : 1 ≤ g) (g2 : g ≤ 1000) (x : Int) (h0 : 0 ≤ x) (h1 : x ≤ 1099511627776) (y : Int) (hy : mark s g ts x = y) :
    Calls Try.prog 14 #[v, .int .i64 x] w fun e w' => e = .returned (.tuple #[.int .i64 y, .int .i64 0]) ∧ Below w.heap.size w w' := by
  have hin := tell_in hg hs h0 h1
  have H := at_ok h hg hs x h0 h1 _ rfl
  have HG := grain_ret (s := tell s ts x) (g := g) ⟨by omega, by omega⟩ g1 (by omega)
  obtain ⟨G, hG⟩ : ∃ G, g * 65536 = G := ⟨_, rfl⟩
  have hm0 := Int.emod_nonneg (tell s ts x) (show G ≠ 0 by omega)
  have hm1 := Int.emod_lt_of_pos (tell s ts x) (show 0 < G by omega)
  have hF : Fit (tell s ts x - tell s ts x % (g * 65536)) = .tuple #[.int .i64 y, .int .i64 0] := by
    have hi : In64 (tell s ts x - tell s ts x % G) := ⟨by omega, by omega⟩
    unfold Fit
    rw [hG, fitV_in hi, fitE_in hi, ← hG]
    unfold mark at hy
    rw [hy]
  rw [hF] at HG
  generalize tell s ts x = t at *
  have h' := Lib.hid h
  obtain ⟨b, l, c, rfl, _, _, hb, _, k1, _⟩ := h
  have K1 := Lib.hid k1
  have HH := Lib.hid H
  clear hg hs h0 h1 hy H hF hin hm0 hm1 k1
  go_enter Try.func14, Try.ntmps14
  go_wp2_with (first
    | (go_at_call 12; (with_reducible refine HH.out.mono ?_); rintro e w1 ⟨rfl, hb'⟩; have k1 : w1.cell? ⟨b, 0, none⟩ = some (.int .i64 g) := (hb'.cell hb).trans K1.out; have HB := Lib.hid hb'; clear hb')
    | (go_at_call 27; (with_reducible refine (HG.go _).mono ?_); rintro e w2 ⟨rfl, hb'⟩; have HB2 := Lib.hid hb'; clear hb'))
  go_ret2
  exact ⟨rfl, bTr HB.out HB2.out⟩

end Go.Proofs.Ytffjbngelapmmaa
