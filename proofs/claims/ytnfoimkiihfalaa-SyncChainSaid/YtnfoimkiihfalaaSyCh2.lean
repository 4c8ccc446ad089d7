/- From clock to clock: the states that follow. -/
import Derived.Test.YtnfoimkiihfalaaSyCh
namespace Go.Proofs.Ytnfoimkiihfalaa
open Go.RowKit Go.Joins

def CS.best : CS := { CS.new 0 with own := true, opn := false }
/-- The j-th clock, when it is N - 5000 since it was told. -/
def ClkSt (xs : List Int) (j : Nat) (N : Int) (s : CS) : Prop :=
  (j = 0 ∧ s = CS.best) ∨ (0 < j ∧ ∃ q src t R : Int, s = CS.heard 0 q src (tl (rho xs j) (N - 5000)) t R ∧ t ≤ (N - 5000) * 65536 + 10 * j ∧ (N - 5000) * 65536 - 10 * j ≤ t ∧ Rec (2 * j) R (rho xs j))
section
variable {xs : List Int} {j : Nat} {N : Int} {s : CS}
/-- What it tells at a later time. -/
theorem heard_at {q src t R M N' : Int} (hj : j ≤ 6) (m0 : 0 ≤ M) (m1 : M ≤ N') (m2 : N' - M ≤ 1060000) (m3 : N' ≤ 30000000) (t0 : t ≤ M * 65536 + 10 * j) (t1 : M * 65536 - 10 * j ≤ t) (hr : Rec (2 * j) R (rho xs j)) :
    ∃ g y, AtOk (CS.heard 0 q src (tl (rho xs j) M) t R) (tl (rho xs j) N') g y ∧ y ≤ N' * 65536 + 10 * j + 5 ∧ N' * 65536 - 10 * j - 5 ≤ y := by
  have hn := rho_near xs j
  have l1 := tl_le hn m0 (Int.le_trans m1 m3)
  have l2 := tl_le hn (Int.le_trans m0 m1) m3
  obtain ⟨d0, d1, d2⟩ := tl_diff hn m0 m1 m3
  obtain ⟨r0, r1⟩ := rec_lt hr hn (by omega) (by omega)
  generalize tl (rho xs j) N' = x at *
  generalize tl (rho xs j) M = h at *
  have b1 : R * (x - h) ≤ 2200000000000 * 4398046511104 := Int.mul_le_mul r1 (by omega) d0 (by decide)
  have hg := rv_near (a := R) (b := x - h) (c := 2199023255552) (by omega) d0 (by decide) (by omega)
  have hgn := hg.2
  obtain ⟨g, eg⟩ : ∃ g, rV R (x - h) 2199023255552 = g := ⟨_, rfl⟩
  rw [eg] at hgn
  obtain ⟨g1, g2⟩ := gone_close hr hn (by omega) (by omega) (by omega) (by omega) d0 d1 d2 hgn
  refine ⟨g, t + g, ⟨⟨by omega, by omega⟩, ⟨by show -9223372036854775808 ≤ h; omega, by show h < 9223372036854775808; omega⟩, ⟨by show -9223372036854775808 ≤ x - h; omega, by show x - h < 9223372036854775808; omega⟩, ⟨by show -9223372036854775808 ≤ R; omega, by show R < 9223372036854775808; omega⟩, hg.1, eg, ⟨by omega, by omega⟩, ⟨by show -9223372036854775808 ≤ t; omega, by show t < 9223372036854775808; omega⟩, ⟨by omega, by omega⟩, rfl⟩, by omega, by omega⟩
theorem at_clk (h : ClkSt xs j N s) (hj : j ≤ 6) (n0 : 1000000 ≤ N) {N' : Int} (n1 : N ≤ N') (n2 : N' ≤ N + 1048575) (n3 : N' ≤ 30000000) :
    ∃ y, (∀ W b, Ck W b s → Calls Try.prog 38 #[.pointer (some ⟨b, 0, none⟩), .int .i64 (tl (rho xs j) N')] W fun e w' => e = .returned (.tuple #[.int .i64 y, .bool true]) ∧ Below W.heap.size W w') ∧ y ≤ N' * 65536 + 10 * j + 5 ∧ N' * 65536 - 10 * j - 5 ≤ y := by
  rcases h with ⟨rfl, rfl⟩ | ⟨h0, q, src, t, R, rfl, t0, t1, hr⟩
  · refine ⟨N' * 65536, fun W b hc => ?_, by omega, by omega⟩
    have key := at_own hc rfl rfl (tl (rho xs 0) N')
    have e : tl (rho xs 0) N' = N' * 65536 := tl_one (by omega) n3
    rw [e] at key ⊢
    exact key
  · obtain ⟨g, y, ha, y0, y1⟩ := heard_at (q := q) (src := src) (N' := N') hj (show 0 ≤ N - 5000 by omega) (by omega) (by omega) n3 t0 t1 hr
    exact ⟨y, fun W b hc => at_ok hc rfl ha, y0, y1⟩
theorem tell_clk (h : ClkSt xs j N s) (hj : j ≤ 6) (n0 : 1000000 ≤ N) (n3 : N ≤ 28000000) {q : Int} (q0 : 0 ≤ q) (q1 : q ≤ 65535) :
    ∃ corr time R, (∀ W b, Ck W b s → Calls Try.prog 34 #[.pointer (some ⟨b, 0, none⟩), .int .i64 q, .int .i64 7, .int .i64 1, .int .i64 (tl (rho xs j) N)] W fun e w' => e = .returned (.tuple #[.agg (MC (FolM 0 q 7 1 corr time R) (.slice none 0 0)), .bool true]) ∧ Below W.heap.size W w') ∧ In64 corr ∧ In64 time ∧ Rec (2 * j) R (rho xs j) ∧ time + corr ≤ N * 65536 + 10 * j + 5 ∧ N * 65536 - 10 * j - 5 ≤ time + corr := by
  have hd : Hd 0 q 7 1 := ⟨by decide, by decide, q0, q1, by decide, by decide, by decide, by decide⟩
  have hn := rho_near xs j
  rcases h with ⟨rfl, rfl⟩ | ⟨h0, q', src, t, R, rfl, t0, t1, hr⟩
  · refine ⟨0, N * 65536, 2199023255552, fun W b hc => ?_, in64_0, ⟨by omega, by omega⟩, rec_one, by omega, by omega⟩
    have e : tl (rho xs 0) N = N * 65536 := tl_one (by omega) (by omega)
    rw [e]
    exact tell_own hc rfl q 7 1 (x := N * 65536) (y := N * 65536) hd ⟨by omega, by omega⟩ ⟨by decide, by decide⟩ (fun W h => at_own h rfl rfl _)
  · obtain ⟨g, y, ha, y0, y1⟩ := heard_at (q := q') (src := src) (N' := N) hj (show 0 ≤ N - 5000 by omega) (by omega) (by omega) (by omega) t0 t1 hr
    obtain ⟨r0, r1⟩ := rec_lt hr hn (by omega) (by omega)
    refine ⟨y - t, t, R, fun W b hc => ?_, ⟨by omega, by omega⟩, ⟨by omega, by omega⟩, hr, by omega, by omega⟩
    exact tell_other hc rfl q 7 1 (y := y) hd ⟨by omega, by omega⟩ ⟨by show -9223372036854775808 ≤ R; omega, by show R < 9223372036854775808; omega⟩ ⟨by show -9223372036854775808 ≤ t; omega, by show t < 9223372036854775808; omega⟩ ⟨by show -9223372036854775808 ≤ y - t; omega, by show y - t < 9223372036854775808; omega⟩ (fun W h => at_ok h rfl ha)
/-- How fast one clock runs by the next one. -/
theorem ratio_ok (xs : List Int) (j k : Nat) : ∃ Q, btE (rho xs j) (rho xs k) = 0 ∧ btV (rho xs j) (rho xs k) = Q ∧ Nr (rho xs j) 2199023255552 (rho xs k) Q ∧ In64 Q := by
  obtain ⟨a0, a1⟩ := rho_near xs j
  obtain ⟨b0, b1⟩ := rho_near xs k
  generalize rho xs j = a at *
  generalize rho xs k = b at *
  have h := rv_near (a := a) (b := 2199023255552) (c := b) (by omega) (by decide) (by omega) (by omega)
  have hn := h.2
  obtain ⟨Q, eQ⟩ : ∃ Q, rV a 2199023255552 b = Q := ⟨_, rfl⟩
  rw [eQ] at hn
  obtain ⟨q0, q1, q2⟩ := hn
  have hR : Right Q := by
    constructor
    · rcases Int.lt_or_le Q 2181843386368 with g | g
      · have m : Q * b ≤ 2181843386367 * b := Int.mul_le_mul_of_nonneg_right (by omega) (by omega)
        generalize Q * b = z at *
        omega
      · exact g
    · rcases Int.lt_or_le 2216203124736 Q with g | g
      · have m : 2216203124737 * b ≤ Q * b := Int.mul_le_mul_of_nonneg_right (by omega) (by omega)
        generalize Q * b = z at *
        omega
      · exact g
  refine ⟨Q, ?_, ?_, ⟨q0, q1, q2⟩, ⟨by have := hR.1; omega, by have := hR.2; omega⟩⟩
  · unfold btE
    rw [if_neg (by omega), eQ, if_neg (by rw [h.1]; simp), if_pos hR]
  · unfold btV
    rw [if_neg (by omega), eQ, if_neg (by rw [h.1]; simp), if_pos hR]
/-- The next clock is told. -/
theorem next_clk {corr time R Q q d : Int} (hj : j ≤ 5) (n0 : 1000000 ≤ N) (n3 : N ≤ 28000000) (d0 : 0 ≤ d) (d1 : d ≤ 4095) (ic : In64 corr) (it : In64 time) (hr : Rec (2 * j) R (rho xs j)) (y0 : time + corr ≤ N * 65536 + 10 * j + 5) (y1 : N * 65536 - 10 * j - 5 ≤ time + corr) (hQ : Nr (rho xs j) 2199023255552 (rho xs (j + 1)) Q) (iQ : In64 Q) :
    ∃ S d' t', FolOk (FolM 0 q 7 1 corr time R) (tl (rho xs (j + 1)) d) Q S d' t' ∧ ClkSt xs (j + 1) (N + d + 5000) (CS.heard 0 q 7 (tl (rho xs (j + 1)) (N + d)) t' S) := by
  have ha := rho_near xs j
  have hb := rho_near xs (j + 1)
  obtain ⟨r0, r1⟩ := rec_lt hr ha (by omega) (by omega)
  have hQ8 : Q ≤ 4398046511104 := by
    obtain ⟨_, _, q2⟩ := hQ
    obtain ⟨a0, a1⟩ := ha
    obtain ⟨b0, b1⟩ := hb
    rcases Int.lt_or_le 4398046511104 Q with g | g
    · have m : 4398046511105 * rho xs (j + 1) ≤ Q * rho xs (j + 1) := Int.mul_le_mul_of_nonneg_right (by omega) (by omega)
      generalize Q * rho xs (j + 1) = z at *
      omega
    · exact g
  have b1 : R * Q ≤ 2200000000000 * 4398046511104 := Int.mul_le_mul r1 hQ8 hQ.1 (by decide)
  have hS := rv_near (a := R) (b := Q) (c := 2199023255552) (by omega) hQ.1 (by decide) (by omega)
  have hSn := hS.2
  obtain ⟨S, eS⟩ : ∃ S, rV R Q 2199023255552 = S := ⟨_, rfl⟩
  rw [eS] at hSn
  have hrec := rec_next hr ha hb (by omega) (by omega) hQ hSn
  obtain ⟨s0, s1⟩ := rec_lt hrec hb (by omega) (by omega)
  have hR : Right S := ⟨by omega, by omega⟩
  have l := tl_le (ns := d) hb d0 (by omega)
  obtain ⟨_, p0, p1, p2⟩ := tl_near (ns := d) hb d0 (by omega)
  obtain ⟨D, hD⟩ : ∃ D, tl (rho xs (j + 1)) d = D := ⟨_, rfl⟩
  rw [hD] at l p0 p1 p2 ⊢
  have b2 : S * D ≤ 2200000000000 * 4398046511104 := Int.mul_le_mul s1 l.2 l.1 (by decide)
  have hE := rv_near (a := S) (b := D) (c := 2199023255552) (by omega) l.1 (by decide) (by omega)
  have hEn := hE.2
  obtain ⟨E, eE⟩ : ∃ E, rV S D 2199023255552 = E := ⟨_, rfl⟩
  rw [eE] at hEn
  obtain ⟨g1, g2⟩ := gone_close (X := d * 65536) hrec hb (by omega) (by omega) (by omega) (by omega) l.1 (by omega) (by omega) hEn
  refine ⟨S, E, time + corr + E, ⟨⟨by show -9223372036854775808 ≤ R; omega, by show R < 9223372036854775808; omega⟩, iQ, hS.1, eS, hR, ⟨ic, it, ⟨by show -9223372036854775808 ≤ time + corr; omega, by show time + corr < 9223372036854775808; omega⟩, ⟨by omega, by omega⟩, ⟨by omega, by omega⟩, hE.1, eE, ⟨by omega, by omega⟩, ⟨by omega, by omega⟩, rfl⟩⟩, .inr ⟨by omega, q, 7, time + corr + E, S, ?_, ?_, ?_, ?_⟩⟩
  · rw [show N + d + 5000 - 5000 = N + d by omega]
  · omega
  · omega
  · have e : (2 : Int) * ((j + 1 : Nat) : Int) = 2 * (j : Int) + 2 := by omega
    rw [e]
    exact hrec
end

end Go.Proofs.Ytnfoimkiihfalaa
