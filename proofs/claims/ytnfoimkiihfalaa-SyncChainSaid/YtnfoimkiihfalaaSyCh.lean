/- From clock to clock: what is rounded, and how far that is off. -/
import Derived.Test.YtnfoimkiihfalaaSyMath
import Derived.Test.YtnfoimkiihfalaaPeFind
import Derived.Test.YtnfoimkiihfalaaLow
namespace Go.Proofs.Ytnfoimkiihfalaa
open Go.RowKit Go.Joins

/-- A rate that is another one turned round, but for some parts. -/
structure Rec (e R rho : Int) : Prop where
  r0 : 0 ≤ R
  up : R * rho ≤ 4835703278458516698824704 + e * rho
  dn : 4835703278458516698824704 - e * rho ≤ R * rho
theorem rec_lt {e R rho : Int} (h : Rec e R rho) (hr : Near1 rho) (he : e ≤ 14) (he0 : 0 ≤ e) : 2198000000000 ≤ R ∧ R ≤ 2200000000000 := by
  obtain ⟨a, b⟩ := hr
  obtain ⟨c, d, f⟩ := h
  have g1 : e * rho ≤ 14 * 2199302531473 := Int.mul_le_mul he b (by omega) (by decide)
  have g0 : 0 ≤ e * rho := Int.mul_nonneg he0 (by omega)
  constructor
  · rcases Int.lt_or_le R 2198000000000 with q | q
    · have m : R * rho ≤ 2198000000000 * 2199302531473 := Int.mul_le_mul (by omega) b (by omega) (by decide)
      generalize R * rho = z at *
      generalize e * rho = y at *
      omega
    · exact q
  · rcases Int.lt_or_le 2200000000000 R with q | q
    · have m : 2200000000000 * 2198741780608 ≤ R * rho := Int.mul_le_mul (by omega) a (by decide) (by omega)
      generalize R * rho = z at *
      generalize e * rho = y at *
      omega
    · exact q
/-- How far the domain's time went. -/
theorem gone_close {e R rho X D g : Int} (h : Rec e R rho) (hr : Near1 rho) (he : e ≤ 14) (he0 : 0 ≤ e) (x0 : 0 ≤ X) (x1 : X ≤ 70000000000) (d0 : 0 ≤ D) (d1 : 2 * (D * 2199023255552) ≤ 2 * (rho * X) + 4398046511104) (d2 : 2 * (rho * X) - 4398046511104 ≤ 2 * (D * 2199023255552)) (hg : Nr R D 2199023255552 g) : g ≤ X + 3 ∧ X - 3 ≤ g := by
  obtain ⟨l0, l1⟩ := rec_lt h hr he he0
  obtain ⟨a, b⟩ := hr
  obtain ⟨c, up, dn⟩ := h
  obtain ⟨g0, g1, g2⟩ := hg
  have s1 : R * (2 * (D * 2199023255552)) ≤ R * (2 * (rho * X) + 4398046511104) := Int.mul_le_mul_of_nonneg_left d1 c
  have s2 : R * (2 * (rho * X) - 4398046511104) ≤ R * (2 * (D * 2199023255552)) := Int.mul_le_mul_of_nonneg_left d2 c
  have s3 : X * (R * rho) ≤ X * (4835703278458516698824704 + e * rho) := Int.mul_le_mul_of_nonneg_left up x0
  have s4 : X * (4835703278458516698824704 - e * rho) ≤ X * (R * rho) := Int.mul_le_mul_of_nonneg_left dn x0
  have ee : e * rho ≤ 14 * 2199302531473 := Int.mul_le_mul he b (by omega) (by decide)
  have ee0 : 0 ≤ e * rho := Int.mul_nonneg he0 (by omega)
  have s5 : X * (e * rho) ≤ 70000000000 * (14 * 2199302531473) := Int.mul_le_mul x1 ee ee0 (by decide)
  have s6 : 0 ≤ X * (e * rho) := Int.mul_nonneg x0 ee0
  have t1 : R * (2 * (D * 2199023255552)) = 4398046511104 * (R * D) := by grind
  have t2 : R * (2 * (rho * X) + 4398046511104) = 2 * (X * (R * rho)) + 4398046511104 * R := by grind
  have t3 : R * (2 * (rho * X) - 4398046511104) = 2 * (X * (R * rho)) - 4398046511104 * R := by grind
  have t4 : X * (4835703278458516698824704 + e * rho) = 4835703278458516698824704 * X + X * (e * rho) := by grind
  have t5 : X * (4835703278458516698824704 - e * rho) = 4835703278458516698824704 * X - X * (e * rho) := by grind
  rw [t1, t2] at s1
  rw [t1, t3] at s2
  rw [t4] at s3
  rw [t5] at s4
  clear t1 t2 t3 t4 t5 up dn d1 d2
  generalize R * D = P at *
  generalize X * (R * rho) = Q at *
  generalize X * (e * rho) = Y at *
  constructor <;> omega
/-- From one clock to the next one. -/
theorem rec_next {e R ra rb Q S : Int} (h : Rec e R ra) (ha : Near1 ra) (hb : Near1 rb) (he : e ≤ 12) (he0 : 0 ≤ e) (hQ : Nr ra 2199023255552 rb Q) (hS : Nr R Q 2199023255552 S) : Rec (e + 2) S rb := by
  obtain ⟨l0, l1⟩ := rec_lt h ha (by omega) he0
  obtain ⟨a0, a1⟩ := ha
  obtain ⟨b0, b1⟩ := hb
  obtain ⟨c, up, dn⟩ := h
  obtain ⟨q0, q1, q2⟩ := hQ
  obtain ⟨s0, s1, s2⟩ := hS
  have m1 : R * (2 * (Q * rb)) ≤ R * (2 * (ra * 2199023255552) + rb) := Int.mul_le_mul_of_nonneg_left q2 c
  have m2 : R * (2 * (ra * 2199023255552) - rb) ≤ R * (2 * (Q * rb)) := Int.mul_le_mul_of_nonneg_left q1 c
  have m3 : (2 * (S * 2199023255552)) * rb ≤ (2 * (R * Q) + 2199023255552) * rb := Int.mul_le_mul_of_nonneg_right s2 (by omega)
  have m4 : (2 * (R * Q) - 2199023255552) * rb ≤ (2 * (S * 2199023255552)) * rb := Int.mul_le_mul_of_nonneg_right s1 (by omega)
  have m5 : R * rb ≤ 2200000000000 * rb := Int.mul_le_mul_of_nonneg_right l1 (by omega)
  have m6 : e * ra ≤ e * (rb + 560750865) := Int.mul_le_mul_of_nonneg_left (by omega) he0
  have m7 : e * 560750865 ≤ 12 * 560750865 := Int.mul_le_mul_of_nonneg_right he (by decide)
  have t1 : R * (2 * (Q * rb)) = 2 * (R * Q * rb) := by grind
  have t2 : R * (2 * (ra * 2199023255552) + rb) = 4398046511104 * (R * ra) + R * rb := by grind
  have t3 : R * (2 * (ra * 2199023255552) - rb) = 4398046511104 * (R * ra) - R * rb := by grind
  have t4 : (2 * (S * 2199023255552)) * rb = 4398046511104 * (S * rb) := by grind
  have t5 : (2 * (R * Q) + 2199023255552) * rb = 2 * (R * Q * rb) + 2199023255552 * rb := by grind
  have t6 : (2 * (R * Q) - 2199023255552) * rb = 2 * (R * Q * rb) - 2199023255552 * rb := by grind
  have t7 : e * (rb + 560750865) = e * rb + e * 560750865 := by grind
  have t8 : (e + 2) * rb = e * rb + 2 * rb := by grind
  rw [t1, t2] at m1
  rw [t1, t3] at m2
  rw [t4, t5] at m3
  rw [t4, t6] at m4
  rw [t7] at m6
  refine ⟨s0, ?_, ?_⟩
  all_goals
    rw [t8]
    clear t1 t2 t3 t4 t5 t6 t7 t8 s1 s2 q1 q2
    generalize R * Q * rb = P at *
    generalize R * ra = U at *
    generalize R * rb = V at *
    generalize S * rb = W at *
    generalize e * rb = Y at *
    generalize e * ra = Z at *
    omega
theorem rec_one : Rec 0 2199023255552 2199023255552 := ⟨by decide, by decide, by decide⟩
/-- The rate of the k-th clock. -/
def rho (xs : List Int) : Nat → Int
  | 0 => 2199023255552
  | j + 1 => 2199023255552 + (xs.getD j 0 % 128 - 64) * 2199023
theorem rho_near (xs : List Int) (k : Nat) : Near1 (rho xs k) := by
  unfold Near1
  cases k with
  | zero => exact ⟨by show (2198741780608 : Int) ≤ 2199023255552; decide, by show (2199023255552 : Int) ≤ 2199302531473; decide⟩
  | succ j =>
    show _ ≤ 2199023255552 + (xs.getD j 0 % 128 - 64) * 2199023 ∧ 2199023255552 + (xs.getD j 0 % 128 - 64) * 2199023 ≤ _
    generalize xs.getD j 0 = z
    omega
theorem tl_one {ns : Int} (h0 : 0 ≤ ns) (h1 : ns ≤ 30000000) : tl 2199023255552 ns = ns * 65536 := (one_by (a := ns * 65536) ⟨by omega, by omega⟩).2
theorem low7 (n : Int) : bits .and .i64 n 127 = n % 128 := and_low n 7 (by omega)
/-- The ppms, in a box of their own. -/
structure Pp (W : World) (bb : Nat) (v : Value) (xs : List Int) : Prop where
  box : W.cell? ⟨bb, 0, none⟩ = some v
  arg : LArg W v xs
theorem Pp.below {W W' : World} {bb : Nat} {v : Value} {xs : List Int} (h : Pp W bb v xs) (hb : Below W.heap.size W W') : Pp W' bb v xs := ⟨(hb.cell (block_lt_cell h.box)).trans h.box, h.arg.below hb⟩
theorem rate_of {W : World} {bb : Nat} {v : Value} {xs : List Int} (h : Pp W bb v xs) {k : Nat} (hk : k ≤ xs.length) (hl : xs.length ≤ 6) : Calls Try.prog 31 #[.int .i64 (k : Int), .pointer (some ⟨bb, 0, none⟩)] W fun e w' => e = .returned (.int .i64 (rho xs k)) ∧ Below W.heap.size W w' := by
  obtain ⟨hbx, hx, h2⟩ := h
  cases k with
  | zero =>
    go_enter Try.func31, Try.ntmps31
    go_wp2_with fail
    go_ret
    exact ⟨rfl, bRef W⟩
  | succ j =>
    rcases h2 with ⟨rfl, _⟩ | ⟨h0, b, o, c, rfl, hc, hr⟩
    · simp at hk
    have hcell := (hr h0).2 j (by omega)
    have hz := in_getD hx j
    show Calls _ _ _ _ fun e w' => e = .returned (.int .i64 (2199023255552 + (xs.getD j 0 % 128 - 64) * 2199023)) ∧ _
    generalize xs.getD j 0 = z at *
    obtain ⟨n, hn⟩ : ∃ n, xs.length = n := ⟨_, rfl⟩
    rw [hn] at hbx hk hl hc
    have l7 := low7 z
    have w0 : wrap64 (j : Int) = (j : Int) := by unfold wrap64; omega
    have w00 : wrap64 ((j : Int) + 1 - 1) = (j : Int) := by unfold wrap64; omega
    have d0 : (((j + 1 : Nat) : Int) == 0) = false := by rw [beq_eq_false_iff_ne]; omega
    have d1 : decide ((j : Int) < (n : Int)) = true := decide_eq_true (by omega)
    have d2 : decide (j < n) = true := decide_eq_true (by omega)
    have w1 : wrap64 (z % 128 - 64) = z % 128 - 64 := by unfold wrap64; omega
    have w2 : wrap64 ((z % 128 - 64) * 2199023) = (z % 128 - 64) * 2199023 := by unfold wrap64; omega
    obtain ⟨r, hr'⟩ : ∃ r, 2199023255552 + (z % 128 - 64) * 2199023 = r := ⟨_, rfl⟩
    have w3 : wrap64 (2199023255552 + (z % 128 - 64) * 2199023) = r := by unfold wrap64; omega
    have lt := block_lt_cell hcell
    rw [hr']
    clear hr hx hz h0 hn hl hc
    go_enter Try.func31, Try.ntmps31
    go_wp2_with fail
    go_ret
    exact ⟨by first | rfl | (show Ending.returned (.int .i64 (wrap64 _)) = _; rw [w3]) | (simp only [hr']), bRef W⟩
theorem told_of {W : World} {bb : Nat} {v : Value} {xs : List Int} (h : Pp W bb v xs) {k : Nat} (hk : k ≤ xs.length) (hl : xs.length ≤ 6) {ns : Int} (n0 : 0 ≤ ns) (n1 : ns ≤ 30000000) : Calls Try.prog 30 #[.int .i64 (k : Int), .int .i64 ns, .pointer (some ⟨bb, 0, none⟩)] W fun e w' => e = .returned (.int .i64 (tl (rho xs k) ns)) ∧ Below W.heap.size W w' := by
  have hr := rho_near xs k
  have ht := tl_near hr n0 n1
  have HB := by_ret (s := ns * 65536) (r := rho xs k) ⟨by omega, by omega⟩ ⟨by have := hr.1; omega, by have := hr.2; omega⟩
  rw [ht.1] at HB
  change Ret _ _ (.tuple #[.int .i64 (tl (rho xs k) ns), .int .i64 0]) at HB
  have w9 : wrap64 (ns * 65536) = ns * 65536 := by unfold wrap64; omega
  obtain ⟨hbx, hx, h2⟩ := h
  clear hr ht
  generalize hT : tl (rho xs k) ns = T at *
  clear hT
  cases k with
  | zero =>
    change Ret 23 #[.int .i64 (ns * 65536), .int .i64 2199023255552] _ at HB
    have HH := Lib.hid HB
    clear HB n0 n1
    go_enter Try.func30, Try.ntmps30
    go_wp2_with (go_at_call 23; (with_reducible refine (HH.out.go _).mono ?_); rintro e w1 ⟨rfl, hb⟩; have HB1 := Lib.hid hb; clear hb)
    go_ret
    exact ⟨rfl, HB1.out⟩
  | succ j =>
    rcases h2 with ⟨rfl, _⟩ | ⟨h0, b, o, c, rfl, hc, hr⟩
    · simp at hk
    change Ret 23 #[.int .i64 (ns * 65536), .int .i64 (2199023255552 + (xs.getD j 0 % 128 - 64) * 2199023)] _ at HB
    have hcell := (hr h0).2 j (by omega)
    have hz := in_getD hx j
    generalize xs.getD j 0 = z at *
    obtain ⟨n, hn⟩ : ∃ n, xs.length = n := ⟨_, rfl⟩
    rw [hn] at hbx hk hl hc
    have l7 := low7 z
    have w0 : wrap64 (j : Int) = (j : Int) := by unfold wrap64; omega
    have w00 : wrap64 ((j : Int) + 1 - 1) = (j : Int) := by unfold wrap64; omega
    have d0 : decide ((0 : Int) < ((j + 1 : Nat) : Int)) = true := decide_eq_true (by omega)
    have d1 : decide ((j : Int) < (n : Int)) = true := decide_eq_true (by omega)
    have d2 : decide (j < n) = true := decide_eq_true (by omega)
    have w1 : wrap64 (z % 128 - 64) = z % 128 - 64 := by unfold wrap64; omega
    have w2 : wrap64 ((z % 128 - 64) * 2199023) = (z % 128 - 64) * 2199023 := by unfold wrap64; omega
    obtain ⟨r, hr'⟩ : ∃ r, 2199023255552 + (z % 128 - 64) * 2199023 = r := ⟨_, rfl⟩
    have w3 : wrap64 (2199023255552 + (z % 128 - 64) * 2199023) = r := by unfold wrap64; omega
    have lt := block_lt_cell hcell
    rw [hr'] at HB
    have HH := Lib.hid HB
    clear HB n0 n1 hr hx hz h0 hn hl hc
    go_enter Try.func30, Try.ntmps30
    go_wp2_with (go_at_call 23; (with_reducible refine (HH.out.go _).mono ?_); rintro e w1 ⟨rfl, hb⟩; have HB1 := Lib.hid hb; clear hb)
    go_ret
    exact ⟨rfl, HB1.out⟩

end Go.Proofs.Ytnfoimkiihfalaa
