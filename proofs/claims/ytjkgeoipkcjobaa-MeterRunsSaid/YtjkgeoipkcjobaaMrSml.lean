/- MeterRuns: the reference's bits, fill and Whole. Written by gen_mr.py. -/
import Derived.Test.YtjkgeoipkcjobaaMrHand
namespace Go.Proofs.Ytjkgeoipkcjobaa
open Go.RowKit Go.Joins Go.Deep

/-- A number that isn't below nought, as digits, whose block isn't below B. -/
def NumZ (B : Nat) (w : World) (v : Value) (x : Int) : Prop := 0 ≤ x ∧ Dgs.Num w v x.toNat ∧ Dgs.Fr B v
theorem NumZ.below {B : Nat} {w w' : World} {v : Value} {x : Int} (h : NumZ B w v x) (hb : Below w.heap.size w w') : NumZ B w' v x := ⟨h.1, h.2.1.below hb, h.2.2⟩
theorem NumZ.down {B C : Nat} {w : World} {v : Value} {x : Int} (h : NumZ B w v x) (hb : C ≤ B) : NumZ C w v x := ⟨h.1, h.2.1, fun k hk => Nat.le_trans hb (h.2.2 k hk)⟩
theorem NumZ.slice {B : Nat} {w : World} {v : Value} {x : Int} (h : NumZ B w v x) : ∃ p n c, v = .slice (some p) n c := by
  obtain ⟨b, o, c, ds, rfl, _⟩ := h.2.1
  exact ⟨_, _, _, rfl⟩
theorem NumZ.drew {B : Nat} {w : World} {v : Value} {x : Int} (h : NumZ B w v x) (n : Nat) : NumZ B (w.drewN n) v x := h.below ⟨rfl, rfl, rfl, Nat.le_refl _, fun _ _ => rfl⟩
theorem NumZ.set {B g i : Nat} {w : World} {v u : Value} {x : Int} (h : NumZ B w v x) (hg : g < B) : NumZ B (w.setCell ⟨g, i, none⟩ u) v x := ⟨h.1, h.2.1.set h.2.2 hg, h.2.2⟩
theorem NumZ.row {B g : Nat} {w : World} {v : Value} {x : Int} {cs : Array Value} (h : NumZ B w v x) (hg : g < B) : NumZ B (w.setRow g cs) v x := by
  refine ⟨h.1, ?_, h.2.2⟩
  obtain ⟨b, o, c, ds, rfl, h1, h2, h3⟩ := h.2.1
  have hf : B ≤ b := h.2.2 b rfl
  refine ⟨b, o, c, ds, rfl, h1, ?_, h3⟩
  intro h0
  obtain ⟨g1, g2⟩ := h2 h0
  have e1 := setRow_other w g b cs (by omega)
  refine ⟨lt_of_heap ((setRow_other w g b cs (by omega)).trans (Array.getElem?_eq_getElem g1)), fun k hk => ?_⟩
  have e2 := g2 k hk
  simp only [World.cell?] at e2 ⊢
  rw [e1]
  exact e2
theorem num_nilN (W : World) : Dgs.Num (W.alloc (.cells #[] 3)) (.slice (some ⟨W.heap.size, 0, none⟩) 0 0) 0 := ⟨W.heap.size, 0, 0, [], rfl, Nat.le_refl _, fun h => absurd h (by decide), Dgs.Dg.IsD.nil⟩
theorem num_nil (W : World) : NumZ W.heap.size (W.alloc (.cells #[] 3)) (.slice (some ⟨W.heap.size, 0, none⟩) 0 0) 0 := ⟨Int.le_refl _, num_nilN W, fun k hk => by cases hk; exact Nat.le_refl _⟩
theorem lt_pow6 {a : Nat} (h : a < 1208925819614629174706176) : a < 65536 ^ 6 := Nat.lt_of_lt_of_le h (by decide)
/-- What a call of the reference's leaves: a number in whatever world behind. -/
def NZ (w : World) (x : Int) (e : Ending) (w' : World) : Prop := ∃ v, e = .returned v ∧ NumZ w.heap.size w' v x ∧ Below w.heap.size w w'
theorem rabs_any (x : Int) (h0 : 0 ≤ x) (h1 : x < 9223372036854775808) (w : World) : Calls Try.prog 22 #[.int .i64 x] w (NZ w x) :=
  (Dgs.abs_num x x.toNat (by omega) (by omega) h1 w).mono fun e w' ⟨v, h2, h3, h4, hf⟩ => ⟨v, h2, ⟨h0, h3, hf⟩, h4⟩
theorem rmul_any {w : World} {B C : Nat} {va vb : Value} {a b : Int} (ha : NumZ B w va a) (hb : NumZ C w vb b) (la : a < 1208925819614629174706176) (lb : b < 1208925819614629174706176) : Calls Try.prog 24 #[va, vb] w (NZ w (a * b)) :=
  (Dgs.mul_any ha.2.1 hb.2.1 (lt_pow6 (by have := ha.1; omega)) (lt_pow6 (by have := hb.1; omega)) (by decide)).mono fun e w' ⟨v, h2, h3, h4, hf⟩ => ⟨v, h2, ⟨Int.mul_nonneg ha.1 hb.1, by rw [Int.toNat_mul ha.1 hb.1]; exact h3, hf⟩, h4⟩
theorem radd_any {w : World} {B C : Nat} {va vb : Value} {a b : Int} (ha : NumZ B w va a) (hb : NumZ C w vb b) (la : a < 1208925819614629174706176) (lb : b < 1208925819614629174706176) : Calls Try.prog 32 #[va, vb] w (NZ w (a + b)) :=
  (Dgs.add_any ha.2.1 hb.2.1 (lt_pow6 (by have := ha.1; omega)) (lt_pow6 (by have := hb.1; omega)) (by decide)).mono fun e w' ⟨v, h2, h3, h4, hf⟩ => ⟨v, h2, ⟨by have := ha.1; have := hb.1; omega, by rw [Int.toNat_add ha.1 hb.1]; exact h3, hf⟩, h4⟩
theorem rsub_any {w : World} {B C : Nat} {va vb : Value} {a b : Int} (ha : NumZ B w va a) (hb : NumZ C w vb b) (hba : b ≤ a) (la : a < 1208925819614629174706176) : Calls Try.prog 26 #[va, vb] w (NZ w (a - b)) :=
  (Dgs.sub_any ha.2.1 hb.2.1 (by have := hb.1; omega) (lt_pow6 (by have := ha.1; omega)) (by decide)).mono fun e w' ⟨v, h2, h3, h4, hf⟩ => ⟨v, h2, ⟨by omega, by rw [show (a - b).toNat = a.toNat - b.toNat by have := hb.1; omega]; exact h3, hf⟩, h4⟩
/-- Cmp answers no more than nought just if the first is no greater. -/
theorem rcmp_any {w : World} {B C : Nat} {va vb : Value} {a b : Int} (ha : NumZ B w va a) (hb : NumZ C w vb b) (la : a < 1208925819614629174706176) : Calls Try.prog 25 #[va, vb] w fun e w' => ∃ c : Int, e = .returned (.int .i64 c) ∧ (c ≤ 0 ↔ a ≤ b) ∧ Below w.heap.size w w' :=
  (Dgs.cmp_any ha.2.1 hb.2.1 (lt_pow6 (by have := ha.1; omega)) (by decide)).mono fun e w' ⟨h1, q, h2⟩ => ⟨_, h1, by
    have e1 := ha.1
    have e2 := hb.1
    unfold Dgs.Dg.cmpN
    split
    · exact ⟨fun _ => by omega, fun _ => by omega⟩
    · split
      · exact ⟨fun _ => by omega, fun _ => by omega⟩
      · exact ⟨fun _ => by omega, fun _ => by omega⟩, by rw [h2]; exact Dgs.below_drewN q⟩
theorem rbits_any (n : Int) (h0 : 0 ≤ n) (h1 : n ≤ 17179869184) (w : World) : Calls Try.prog 21 #[.int .i64 n] w (NZ w (n * 1000000000)) := by
  have HA := Lib.hid (fun W => rabs_any n h0 (by omega) W)
  have HB := Lib.hid (fun W => rabs_any 1000000000 (by decide) (by decide) W)
  have HN := Lib.hid (And.intro h0 h1)
  clear h0 h1
  go_enter Try.func21, Try.ntmps21
  go_wp2_with (first
    | (go_at_call 22; (with_reducible refine (HB.out _).mono ?_); rintro e w2 ⟨v2, rfl, hn2, hb2⟩; have H2 := Lib.hid hn2; have H12 := Lib.hid (H1.out.below hb2); have B2 := Lib.hid (bTr B1.out hb2); clear hn2 hb2)
    | (go_at_call 22; (with_reducible refine (HA.out _).mono ?_); rintro e w1 ⟨v1, rfl, hn1, hb1⟩; have H1 := Lib.hid hn1; have B1 := Lib.hid hb1; clear hn1 hb1)
    | (go_at_call 24; (with_reducible refine (rmul_any H12.out H2.out (by have := HN.out; omega) (by decide)).mono ?_); rintro e w3 ⟨v3, rfl, hn3, hb3⟩; have H3 := Lib.hid hn3; have B3 := Lib.hid (bTr B2.out hb3); clear hn3 hb3))
  go_ret
  exact ⟨_, rfl, H3.out.down B2.out.size, B3.out⟩
def FZ (B : Nat) (w : World) (x y : Int) (e : Ending) (w' : World) : Prop := ∃ v1 v2, e = .returned (.tuple #[v1, v2]) ∧ NumZ B w' v1 x ∧ NumZ B w' v2 y ∧ Below w.heap.size w w'
theorem rfill_any {B C D : Nat} {w : World} {va vb vc : Value} {a b c : Int} (ha : NumZ B w va a) (hb : NumZ C w vb b) (hc : NumZ D w vc c) (hD : D ≤ w.heap.size) (la : a < 604462909807314587353088) (lb : b < 604462909807314587353088) :
    Calls Try.prog 23 #[va, vb, vc] w (FZ D w (if a + b ≤ c then a + b else c) (if a + b ≤ c then 0 else a + b - c)) := by
  have HA := Lib.hid ha
  have HB := Lib.hid hb
  have HC := Lib.hid hc
  have HL := Lib.hid (And.intro la lb)
  have HZ := Lib.hid (And.intro ha.1 hb.1)
  obtain ⟨X, hX⟩ : ∃ X : Int, X = (if a + b ≤ c then a + b else c) := ⟨_, rfl⟩
  obtain ⟨Y, hY⟩ : ∃ Y : Int, Y = (if a + b ≤ c then 0 else a + b - c) := ⟨_, rfl⟩
  rw [← hX, ← hY]
  have HX := Lib.hid hX
  have HY := Lib.hid hY
  clear hX hY
  obtain ⟨pa, na, ca, rfl⟩ := ha.slice
  obtain ⟨pb, nb, cb, rfl⟩ := hb.slice
  obtain ⟨pc, nc, cc, rfl⟩ := hc.slice
  clear ha hb hc la lb
  go_enter Try.func23, Try.ntmps23
  go_upto_if 15 with (first
    | (go_at_call 32; (with_reducible refine (radd_any HA.out HB.out (by have := HL.out; omega) (by have := HL.out; omega)).mono ?_); rintro e w1 ⟨v1, rfl, hn1, hb1⟩; have H1 := Lib.hid hn1; have B1 := Lib.hid hb1; have HC1 := Lib.hid (HC.out.below hb1); clear hn1 hb1)
    | (go_at_call 25; (with_reducible refine (rcmp_any H1.out HC1.out (by have := HL.out; omega)).mono ?_); rintro e w2 ⟨cv, rfl, hcv, hb2⟩; have HCV := Lib.hid hcv; have H2 := Lib.hid (H1.out.below hb2); have HC2 := Lib.hid (HC1.out.below hb2); have B2 := Lib.hid (bTr B1.out hb2); clear hcv hb2))
  by_cases g : a + b ≤ c
  · have d0 : decide (cv ≤ 0) = true := decide_eq_true (HCV.out.2 g)
    have G := Lib.hid g
    clear g
    refine wp_cond_true (by go_simp) ?_
    go_wp2_with fail
    go_ret2
    refine ⟨_, _, rfl, ?_, ?_, bAl B2.out _⟩
    · rw [HX.out, if_pos G.out]
      exact (H2.out.below (bAl (bRef w2) _)).down hD
    · rw [HY.out, if_pos G.out]
      exact (num_nil w2).down (Nat.le_trans hD B2.out.size)
  · have d0 : decide (cv ≤ 0) = false := decide_eq_false (fun e => g (HCV.out.1 e))
    have G := Lib.hid g
    clear g
    refine wp_cond_false (by go_simp) ?_
    go_wp2_with (go_at_call 26; (with_reducible refine (rsub_any H2.out HC2.out (by have := G.out; omega) (by have := HL.out; omega)).mono ?_); rintro e w3 ⟨v3, rfl, hn3, hb3⟩; have H3 := Lib.hid hn3; have HC3 := Lib.hid (HC2.out.below hb3); have B3 := Lib.hid (bTr B2.out hb3); clear hn3 hb3)
    go_ret2
    refine ⟨_, _, rfl, ?_, ?_, B3.out⟩
    · rw [HX.out, if_neg (by have := G.out; omega)]
      exact HC3.out
    · rw [HY.out, if_neg (by have := G.out; omega)]
      exact H3.out.down (Nat.le_trans hD B2.out.size)
theorem int_num {w : World} {v : Value} {a : Nat} (ha : Dgs.Num w v a) (h : a ≤ 9223372036854775807) {R : Int} (hR : R = (a : Int)) : Calls Try.prog 28 #[v, .bool false] w fun e w' => e = .returned (.tuple #[.int .i64 R, .bool true]) ∧ Below w.heap.size w w' := by
  obtain ⟨b, o, c, ds, rfl, h1, h2, h3⟩ := ha
  exact Dgs.int_ok_false b o c ds a w h3 h1 h2 h R hR
theorem rwhole_any {w : World} {B : Nat} {va : Value} {a : Int} (ha : NumZ B w va a) (la : a < 604462909807314587353088) (lq : a / 1000000000 ≤ 9223372036854775807) : Calls Try.prog 17 #[va] w fun e w' => e = .returned (.int .i64 (a / 1000000000)) ∧ Below w.heap.size w w' := by
  have HB := Lib.hid (fun W => rabs_any 1000000000 (by decide) (by decide) W)
  have HA := Lib.hid ha
  have h0 := ha.1
  have HL := Lib.hid (lt_pow6 (a := a.toNat) (by omega))
  have HL9 := Lib.hid (lt_pow6 (a := 1000000000) (by decide))
  have eq : ((a.toNat / 1000000000 : Nat) : Int) = a / 1000000000 := by omega
  have HE := Lib.hid eq
  have HQ : Hid (a.toNat / 1000000000 ≤ 9223372036854775807) := Lib.hid (by omega)
  obtain ⟨pa, na, ca, rfl⟩ := ha.slice
  clear ha la lq h0 eq
  go_enter Try.func17, Try.ntmps17
  go_wp2_with (first
    | (go_at_call 22; (with_reducible refine (HB.out _).mono ?_); rintro e w1 ⟨v1, rfl, hn1, hb1⟩; have H1 : Hid (Dgs.Num w1 v1 1000000000) := Lib.hid hn1.2.1; have HA1 := Lib.hid (HA.out.below hb1).2.1; have B1 := Lib.hid hb1; clear hn1 hb1)
    | (go_at_call 27; (with_reducible refine (Dgs.div_any HA1.out H1.out (by decide) (L := 6) HL.out HL9.out (by decide)).mono ?_); rintro e w2 ⟨vq, vr, rfl, hq, hr, hb2⟩; have HQ2 := Lib.hid hq; have B2 := Lib.hid (bTr B1.out hb2); clear hq hr hb2; try dsimp only)
    | (go_at_call 28; (with_reducible refine (int_num HQ2.out HQ.out HE.out.symm).mono ?_); rintro e w3 ⟨rfl, hb3⟩; have B3 := Lib.hid (bTr B2.out hb3); clear hb3; try dsimp only))
  go_ret
  exact ⟨rfl, B3.out⟩

end Go.Proofs.Ytjkgeoipkcjobaa
