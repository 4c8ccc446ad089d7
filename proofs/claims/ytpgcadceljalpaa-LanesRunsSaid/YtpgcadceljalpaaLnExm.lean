/- The document's example of package lanes. -/
import Derived.Test.YtpgcadceljalpaaLnLaw
namespace Go.Proofs.Ytpgcadceljalpaa
open Go.RowKit Go.Joins

def s0 : LS := LS.new (fun _ => 2)
def s1 : LS := s0.put 3 (1, 100, false)
def s2 : LS := s1.put 5 (2, 200, false)
def s3 : LS := { s2 with q := upd s2.q 3 [] }
theorem s0_ok : okR (fun _ => 2) 8 := fun _ _ => ⟨show (0 : Int) ≤ 2 by decide, show (2 : Int) ≤ 4096 by decide⟩
theorem s1_g : s1.Good := (new_good _).put s0_ok 3 _
theorem s2_g : s2.Good := s1_g.put (by rw [s1, put_r]; exact s0_ok) 5 _
theorem s1_e : s0.pute 3 (1, 100, false) = 0 := by decide
theorem s2_e : s1.pute 5 (2, 200, false) = 0 := by decide +kernel
theorem s1_eq : s1 = { s0 with q := upd s0.q 3 [(1, 100, false)] } := by unfold s1 LS.put; rw [s1_e]; rfl
theorem s2_eq : s2 = { s1 with q := upd s1.q 5 [(2, 200, false)] } := by
  unfold s2 LS.put
  rw [s2_e, s1_eq]
  rfl
theorem s2_q (c : Nat) : s2.q c = if c = 5 then [(2, 200, false)] else if c = 3 then [(1, 100, false)] else [] := by
  rw [s2_eq, s1_eq]
  rfl
theorem s3_q (c : Nat) : s3.q c = if c = 5 then [(2, 200, false)] else [] := by
  show upd s2.q 3 [] c = _
  by_cases e : c = 3
  · subst e; rw [upd_same]; rfl
  · rw [upd_other _ _ e, s2_q]
    rw [if_neg e]
theorem s3_g : s3.Good := s2_g.pop (x := (1, 100, false)) (by decide) (by rw [s2_q]; rfl)
section
variable {w0 w : World} {b : Nat} {F : Nat → Prop}
theorem pick1 (h : LnB w0 w b F s2) (left : Nat → Int) (h3 : left 3 = 1600) (h5 : left 5 = 1599) : Calls Try.prog 9 #[.pointer (some ⟨b, 0, none⟩), a8 left] w fun e w' => e = .returned (.tuple #[.int .i64 3, .agg #[.int .i64 1, .int .i64 100, .bool false], .bool true]) ∧ ∃ F', LnB w0 w' b F' s3 :=
  (pickB h s2_g left).mono fun e w' hh => by
    rcases hh with ⟨h1, _⟩ | ⟨c, x, L, hc, hq, hx, _, he, F', hl, _⟩
    · refine absurd ⟨(1, 100, false), [], ?_, ?_⟩ (h1 3 (by decide))
      · rw [s2_q]; rfl
      · rw [h3]; decide
    · rw [s2_q] at hq
      by_cases e5 : c = 5
      · rw [if_pos e5] at hq
        injection hq with hq _
        subst e5
        rw [h5, ← hq] at hx
        exact absurd hx (by decide)
      rw [if_neg e5] at hq
      by_cases e3 : c = 3
      · rw [if_pos e3] at hq
        injection hq with hq hq2
        subst e3 hq hq2
        exact ⟨he, F', hl⟩
      · rw [if_neg e3] at hq
        cases hq
theorem pick2 (h : LnB w0 w b F s3) (left : Nat → Int) (h5 : left 5 = 1600) : Calls Try.prog 9 #[.pointer (some ⟨b, 0, none⟩), a8 left] w fun e w' => e = .returned (.tuple #[.int .i64 5, .agg #[.int .i64 2, .int .i64 200, .bool false], .bool true]) ∧ Below w0.heap.size w0 w' ∧ ButP F w w' :=
  (pickB h s3_g left).mono fun e w' hh => by
    rcases hh with ⟨h1, _⟩ | ⟨c, x, L, hc, hq, hx, _, he, F', hl, _, hb⟩
    · refine absurd ⟨(2, 200, false), [], ?_, ?_⟩ (h1 5 (by decide))
      · rw [s3_q]; rfl
      · rw [h5]; decide
    · rw [s3_q] at hq
      by_cases e5 : c = 5
      · rw [if_pos e5] at hq
        injection hq with hq hq2
        subst e5 hq hq2
        exact ⟨he, hl.bel, hb⟩
      · rw [if_neg e5] at hq
        cases hq
end
abbrev V8 (x0 x1 x2 x3 x4 x5 x6 x7 : Int) : Value := .agg #[.int .i64 x0, .int .i64 x1, .int .i64 x2, .int .i64 x3, .int .i64 x4, .int .i64 x5, .int .i64 x6, .int .i64 x7]
set_option maxHeartbeats 4000000 in
theorem lhead_ret (w : World) : Calls Try.prog 7 #[] w fun e w' => e = .returned (.bool true) ∧ Below w.heap.size w w' := by
  have HE : Hid (∀ n W, Calls Try.prog 10 #[.int .i64 n] W fun e w' => e = .returned (V8 n n n n n n n n) ∧ Below W.heap.size W w') := Lib.hid (fun n W => eight_ret n W)
  have HN : Hid (∀ W, Below w.heap.size w W → Calls Try.prog 8 #[V8 2 2 2 2 2 2 2 2] W fun e w' => ∃ b, e = .returned (.tuple #[.pointer (some ⟨b, 0, none⟩), .int .i64 0]) ∧ W.heap.size ≤ b ∧ LnB w w' b (fun k => k = b) s0 ∧ Below W.heap.size W w') := Lib.hid (fun W hW => new_yes _ s0_ok w W hW)
  have H1 : Hid (∀ W b F, LnB w W b F s0 → Calls Try.prog 11 #[.pointer (some ⟨b, 0, none⟩), .int .i64 3, .agg #[.int .i64 1, .int .i64 100, .bool false]] W fun e w' => e = .returned (.int .i64 0) ∧ Left w W b F s1 w') := Lib.hid (fun W b F h => by
    have k := putB h (new_good _) 3 (1, 100, false)
    rw [s1_e] at k; exact k)
  have H2 : Hid (∀ W b F, LnB w W b F s1 → Calls Try.prog 11 #[.pointer (some ⟨b, 0, none⟩), .int .i64 5, .agg #[.int .i64 2, .int .i64 200, .bool false]] W fun e w' => e = .returned (.int .i64 0) ∧ Left w W b F s2 w') := Lib.hid (fun W b F h => by
    have k := putB h s1_g 5 (2, 200, false)
    rw [s2_e] at k; exact k)
  have H3 : Hid (∀ W b F, LnB w W b F s2 → Calls Try.prog 9 #[.pointer (some ⟨b, 0, none⟩), V8 1600 1600 1600 1600 1600 1599 1600 1600] W fun e w' => e = .returned (.tuple #[.int .i64 3, .agg #[.int .i64 1, .int .i64 100, .bool false], .bool true]) ∧ ∃ F', LnB w w' b F' s3) := Lib.hid (fun W b F h => pick1 h (fun k => if k = 5 then 1599 else 1600) rfl rfl)
  have H4 : Hid (∀ W b F, LnB w W b F s3 → Calls Try.prog 9 #[.pointer (some ⟨b, 0, none⟩), V8 1600 1600 1600 1600 1600 1600 1600 1600] W fun e w' => e = .returned (.tuple #[.int .i64 5, .agg #[.int .i64 2, .int .i64 200, .bool false], .bool true]) ∧ Below w.heap.size w w' ∧ ButP F W w') := Lib.hid (fun W b F h => pick2 h (fun _ => 1600) rfl)
  go_enter Try.func7, Try.ntmps7
  go_wp2_with (first
    | (go_at_call 10; (with_reducible refine (HE.out 2 _).mono ?_); rintro e x0 ⟨rfl, hb⟩; have HB0 := Lib.hid hb; clear hb)
    | (go_at_call 8; (with_reducible refine (HN.out _ HB0.out).mono ?_); rintro e x1 ⟨b, rfl, hlo, hm, hb⟩; have HM1 := Lib.hid hm; clear hlo hm hb)
    | (go_at_call 11; (with_reducible refine (H1.out _ _ _ HM1.out).mono ?_); rintro e x2 ⟨rfl, F2, hm, _, _⟩; have HM2 := Lib.hid hm; clear hm)
    | (go_at_call 11; (with_reducible refine (H2.out _ _ _ HM2.out).mono ?_); rintro e x3 ⟨rfl, F3, hm, _, _⟩; have HM3 := Lib.hid hm; clear hm)
    | (go_at_call 10; (with_reducible refine (HE.out 1600 _).mono ?_); rintro e x4 ⟨rfl, hb⟩; have HM4 := Lib.hid ((HM3.out.below hb).alloc (.cells #[.int .i64 1600, .int .i64 1600, .int .i64 1600, .int .i64 1600, .int .i64 1600, .int .i64 1599, .int .i64 1600, .int .i64 1600] 22)); clear hb)
    | (go_at_call 9; (with_reducible refine (H3.out _ _ _ HM4.out).mono ?_); rintro e x5 ⟨rfl, F5, hm⟩; have HM5 := Lib.hid (hm.alloc (.cells #[.int .i64 1, .int .i64 100, .bool false] 30)); have HN5 : Hid (¬ F5 x5.heap.size) := Lib.hid (fun h => Nat.lt_irrefl _ (hm.ln.top.2 _ h)); have K5 : Hid ((x5.alloc (.cells #[.int .i64 1, .int .i64 100, .bool false] 30)).cell? ⟨x5.heap.size, 0, none⟩ = some (.int .i64 1)) := Lib.hid (cell_of_row _ _ _ _ _ _ (heap_alloc_one' _ _)); clear hm)
    | (go_at_call 10; (with_reducible refine (HE.out 1600 _).mono ?_); rintro e x6 ⟨rfl, hb⟩; have HM6 := Lib.hid (HM5.out.below hb); have K6 := Lib.hid (hb.cell (block_lt_cell K5.out) |>.trans K5.out); clear hb)
    | (go_at_call 9; (with_reducible refine (H4.out _ _ _ HM6.out).mono ?_); rintro e x7 ⟨rfl, hb, hbut⟩; have HB7 := Lib.hid hb; have K7 := Lib.hid (hbut.cell K6.out HN5.out); have k7 : (x7.alloc (.cells #[.int .i64 2, .int .i64 200, .bool false] 30)).cell? ⟨x5.heap.size, 0, none⟩ = some (.int .i64 1) := ((bAl (bRef x7) _).cell (block_lt_cell K7.out)).trans K7.out; clear hb hbut))
  go_ret
  exact ⟨rfl, HB7.out.alloc HB7.out.size _⟩

end Go.Proofs.Ytpgcadceljalpaa
