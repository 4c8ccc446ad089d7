/- Package osc: When; the document's example. -/
import Derived.Test.YtffjbngelapmmaaOsF
namespace Go.Proofs.Ytffjbngelapmmaa
open Go.RowKit Go.Joins

theorem whenf_ret {B : Nat} {v : Value} {s g : Int} {ts : List (Int × Int)} {w : World} (h : Clk B w v s g ts) (hg : Good ts) (hs : Start s) (bc bs : Nat) (x q : Int) (h0 : 0 ≤ x) (h1 : x ≤ 1099511627776) (k1 : w.cell? ⟨bc, 0, none⟩ = some v) (k2 : w.cell? ⟨bs, 0, none⟩ = some (.int .i64 q)) :
    Calls Try.prog 26 #[.int .i64 x, .pointer (some ⟨bc, 0, none⟩), .pointer (some ⟨bs, 0, none⟩)] w fun e w' => e = .returned (.bool (decide (q ≤ tell s ts x))) ∧ Below w.heap.size w w' := by
  have H := Lib.hid (at_ok h hg hs x h0 h1 _ rfl)
  generalize tell s ts x = y at *
  have lb : bs < w.heap.size := World.block_lt_of_cell? _ _ k2
  clear h hg hs h0 h1
  have K2 := Lib.hid k2
  go_enter Try.func26, Try.ntmps26
  go_wp2_with (go_at_call 12; (with_reducible refine H.out.mono ?_); rintro e w1 ⟨rfl, hb'⟩; have k3 : w1.cell? ⟨bs, 0, none⟩ = some (.int .i64 q) := (hb'.cell lb).trans K2.out; have HB := Lib.hid hb'; clear hb')
  go_ret
  exact ⟨rfl, HB.out⟩
theorem when_fn (args : Array Value) (w : World) : (callFunc 26 args).run Try.prog w = .ok (.enter 26 args) w := by go_simp

theorem when_nil (q : Int) (w : World) :
    Calls Try.prog 13 #[.pointer none, .int .i64 q] w fun e w' => e = .returned (.tuple #[.int .i64 0, .int .i64 1]) ∧ Below w.heap.size w w' := by
  have H := leg_nil 0
  go_enter Try.func13, Try.ntmps13
  go_wp2_with (go_at_call 23; (with_reducible refine (H _).mono ?_); rintro e w1 ⟨rfl, hb⟩; have HB := Lib.hid hb; clear hb)
  go_ret2
  exact ⟨rfl, bAl (bTr (bAl (bAl (bRef w) _) _) HB.out) _⟩

/-- What When answers. -/
def Whens (s q : Int) (ts : List (Int × Int)) (t e : Int) : Prop :=
  (e = 0 ∧ 0 ≤ t ∧ t ≤ 1099511627776 ∧ q ≤ tell s ts t ∧ ∀ x, 0 ≤ x → x < t → tell s ts x < q) ∨ (e = 10 ∧ t = 0 ∧ tell s ts 1099511627776 < q)
set_option maxHeartbeats 1000000 in
theorem when_ok {B : Nat} {v : Value} {s g : Int} {ts : List (Int × Int)} {w : World} (h : Clk B w v s g ts) (hg : Good ts) (hs : Start s) (q : Int) :
    Calls Try.prog 13 #[v, .int .i64 q] w fun e w' => ∃ t x, e = .returned (.tuple #[.int .i64 t, .int .i64 x]) ∧ Whens s q ts t x ∧ Below w.heap.size w w' := by
  have HC := Lib.hid h
  obtain ⟨W0, hW0⟩ : ∃ W0, W0 = (w.alloc (.cells #[v] 26)).alloc (.cells #[.int .i64 q] 22) := ⟨_, rfl⟩
  have HB0 : Below w.heap.size w W0 := by rw [hW0]; exact bAl (bAl (bRef w) _) _
  have b1 : W0.heap[w.heap.size]? = some (.cells #[v] 26 (0, 0)) := by rw [hW0, heap_alloc_old _ _ (by simp)]; exact heap_alloc_new w _
  have b2 : W0.heap[w.heap.size + 1]? = some (.cells #[.int .i64 q] 22 (0, 0)) := by rw [hW0]; have := heap_alloc_new (w.alloc (.cells #[v] 26)) (.cells #[.int .i64 q] 22); simpa using this
  have hs0 : W0.heap.size = w.heap.size + 1 + 1 := by rw [hW0]; simp
  have HP : Hid (∀ a b, a ≤ b → b < 1099511627777 → decide (q ≤ tell s ts (a : Nat)) = true → decide (q ≤ tell s ts (b : Nat)) = true) := Lib.hid (fun a b h1 h2 h3 => by
    rw [decide_eq_true_iff] at h3 ⊢
    have := tell_on (s := s) hg (a := (a : Int)) (b := (b : Int)) (by omega) (by omega)
    omega)
  have HF : Hid (∀ W, Below W0.heap.size W0 W → ∀ W1, Below W.heap.size W W1 → ∀ i, i < 1099511627777 → Calls Try.prog 26 (#[.int .i64 (i : Int)] ++ #[.pointer (some ⟨w.heap.size, 0, none⟩), .pointer (some ⟨w.heap.size + 1, 0, none⟩)]) W1 fun e W' => e = .returned (.bool (decide (q ≤ tell s ts (i : Nat)))) ∧ Below W1.heap.size W1 W') := Lib.hid (fun W hW W1 hW1 i hi => by
    have hWw : Below W0.heap.size W0 W1 := bTr hW hW1
    refine whenf_ret (h.below (bTr HB0 hWw)) hg hs w.heap.size (w.heap.size + 1) (i : Int) q (by omega) (by omega) ?_ ?_
    · exact cell_of_row _ _ _ _ _ _ ((hWw.block w.heap.size (by omega)).trans b1)
    · exact cell_of_row _ _ _ _ _ _ ((hWw.block (w.heap.size + 1) (by omega)).trans b2))
  have HS : Hid (∀ W, Below W0.heap.size W0 W → Calls Try.prog 25 #[.int .i64 1099511627777, .func (.func 26) #[] #[.pointer (some ⟨w.heap.size, 0, none⟩), .pointer (some ⟨w.heap.size + 1, 0, none⟩)]] W fun e w' => ∃ r : Nat, e = .returned (.int .i64 (r : Int)) ∧ r ≤ 1099511627777 ∧ (∀ t, t < r → decide (q ≤ tell s ts (t : Nat)) = false) ∧ (∀ t, r ≤ t → t < 1099511627777 → decide (q ≤ tell s ts (t : Nat)) = true) ∧ Below W.heap.size W w') :=
    Lib.hid (fun W hW => search_any 1099511627777 26 _ (fun i => decide (q ≤ tell s ts (i : Nat))) W (by decide) when_fn (Lib.hid (fun W1 h1 i hi => HF.out W hW W1 h1 i hi)) HP)
  have HL : Hid (Calls Try.prog 23 #[v, .int .i64 0] W0 fun e w' => e = .returned (.tuple #[.agg #[.int .i64 (tA ts (ix ts 0)), .int .i64 (tR ts (ix ts 0)), .int .i64 (told s ts (ix ts 0))], .int .i64 0]) ∧ Below W0.heap.size W0 w') := Lib.hid (leg_ok (h.below HB0) hg 0 (by omega) (by omega) _ _ _ rfl rfl rfl)
  have HG := Lib.hid hg
  have HW0 := Lib.hid hW0
  have HB0' := Lib.hid HB0
  have qv : ((w.alloc (.cells #[v] 26)).alloc (.cells #[.int .i64 q] 22)).cell? ⟨w.heap.size, 0, none⟩ = some v := by rw [← hW0]; exact cell_of_row _ _ _ _ _ _ b1
  obtain ⟨b, l, c, rfl, _⟩ := h
  clear hg hs hW0 HB0 b1 b2 hs0 HP HF
  go_enter Try.func13, Try.ntmps13
  go_wp2_with fail
  rw [← HW0.out]
  refine HL.out.mono ?_
  rintro e w1 ⟨rfl, hb⟩
  have HB1 := Lib.hid hb
  clear hb
  go_wp2_with fail
  refine (HS.out _ (bAl HB1.out _)).mono ?_
  rintro e w2 ⟨r, rfl, hr, hlo, hhi, hb⟩
  have HB2 := Lib.hid (bTr HB0'.out (bTr (bAl HB1.out _) hb))
  have HLO := Lib.hid hlo
  have HHI := Lib.hid hhi
  clear hlo hhi hb
  rcases Nat.lt_or_ge r 1099511627777 with hlt | hge
  · have d1 : decide (1099511627776 < (r : Int)) = false := decide_eq_false (by omega)
    go_wp2_with fail
    go_ret2
    refine ⟨_, _, rfl, .inl ⟨rfl, by omega, by omega, of_decide_eq_true (HHI.out r (Nat.le_refl _) hlt), fun x hx0 hx => ?_⟩, HB2.out⟩
    have := of_decide_eq_false (HLO.out x.toNat (by omega))
    rw [Int.toNat_of_nonneg hx0] at this
    omega
  · obtain rfl : r = 1099511627777 := by omega
    go_wp2_with fail
    go_ret2
    refine ⟨_, _, rfl, .inr ⟨rfl, rfl, ?_⟩, HB2.out⟩
    have := of_decide_eq_false (HLO.out 1099511627776 (by omega))
    rw [show ((1099511627776 : Nat) : Int) = 1099511627776 from rfl] at this
    omega

theorem tell_one (s r x : Int) : tell s [(0, r)] x = s + run (x - 0) r := rfl
theorem tell_ns (x : Int) : tell 0 [(0, 2199023255552)] x = x * 65536 := by
  rw [tell_one]
  unfold run
  omega
theorem good_one : Good [(0, 2199023255552)] := good_of (by decide) (by decide) (by decide) rfl
theorem arg_one (w : World) : TArg (w.alloc (.cells #[.int .i64 0, .int .i64 2199023255552] 32)) (.slice (some ⟨w.heap.size, 0, none⟩) 1 1) [(0, 2199023255552)] := by
  refine ⟨fun k hk => ?_, .inr ⟨by decide, w.heap.size, 0, 1, rfl, Nat.le_refl _, by simp, fun k hk => ?_⟩⟩
  · obtain rfl : k = 0 := by simp at hk; omega
    exact ⟨⟨by decide, by decide⟩, ⟨by decide, by decide⟩⟩
  · obtain rfl : k = 0 := by simp at hk; omega
    exact ⟨cell_of_row _ _ _ _ _ _ (heap_alloc_new w _), cell_of_row _ _ _ _ _ _ (heap_alloc_new w _)⟩
theorem new_one (w : World) : Calls Try.prog 9 #[.int .i64 0, .int .i64 8, .slice (some ⟨w.heap.size, 0, none⟩) 1 1] (w.alloc (.cells #[.int .i64 0, .int .i64 2199023255552] 32)) fun e w' => ∃ b, e = .returned (.tuple #[.pointer (some ⟨b, 0, none⟩), .int .i64 0]) ∧ Clk 0 w' (.pointer (some ⟨b, 0, none⟩)) 0 8 [(0, 2199023255552)] ∧ Below w.heap.size w w' := by
  refine (new_any (s := 0) (g := 8) (arg_one w)).mono fun e w' hh => ?_
  obtain ⟨v, rfl, hc⟩ := hh.2.1 (by decide)
  obtain ⟨b, l, c, rfl, h1, h2, h3⟩ := hc
  exact ⟨b, rfl, ⟨b, l, c, rfl, Nat.zero_le _, Nat.zero_le _, h3⟩, bTr (bAl (bRef w) _) hh.2.2⟩
theorem when_five {t e : Int} (h : Whens 0 327680 [(0, 2199023255552)] t e) : t = 5 ∧ e = 0 := by
  rcases h with ⟨h1, h2, h3, h4, h5⟩ | ⟨_, _, h3⟩
  · rw [tell_ns] at h4
    refine ⟨?_, h1⟩
    rcases Int.lt_or_le 5 t with hlt | hle
    · have := h5 5 (by omega) hlt
      rw [tell_ns] at this
      omega
    · omega
  · rw [tell_ns] at h3
    omega

set_option maxHeartbeats 1000000 in
theorem head_ret : Ret 8 #[] (.bool true) := fun w => by
  have HN := Lib.hid new_one
  have hg := good_one
  have hs : Start 0 := ⟨by omega, by omega⟩
  have T10 : Hid (tell 0 [(0, 2199023255552)] 10 = 655360) := Lib.hid (by rw [tell_ns]; rfl)
  have M10 : Hid (mark 0 8 [(0, 2199023255552)] 10 = 524288) := Lib.hid (by unfold mark; rw [tell_ns]; rfl)
  have z0 : (0 : Int) ≤ 10 := by omega
  have z1 : (10 : Int) ≤ 1099511627776 := by omega
  have z2 : (1 : Int) ≤ 8 := by omega
  have z3 : (8 : Int) ≤ 1000 := by omega
  go_enter Try.func8, Try.ntmps8
  go_wp2_with (first
    | (go_at_call 9; (with_reducible refine (HN.out _).mono ?_); rintro e w1 ⟨b, rfl, hc, hb⟩; have HC := Lib.hid hc; have HB := Lib.hid hb; clear hc hb)
    | (go_at_call 12; (with_reducible refine (at_ok HC.out hg hs 10 z0 z1 655360 T10.out).mono ?_); rintro e w2 ⟨rfl, hb⟩; replace HC := Lib.hid (HC.out.below hb); replace HB := Lib.hid (bTr HB.out hb); clear hb)
    | (go_at_call 14; (with_reducible refine (mark_ok HC.out hg hs z2 z3 10 z0 z1 524288 M10.out).mono ?_); rintro e w3 ⟨rfl, hb⟩; replace HC := Lib.hid (HC.out.below hb); replace HB := Lib.hid (bTr HB.out hb); clear hb)
    | (go_at_call 13; (with_reducible refine (when_ok HC.out hg hs 327680).mono ?_); rintro e w4 ⟨t, x, rfl, hw, hb⟩; obtain ⟨rfl, rfl⟩ := when_five hw; replace HB := Lib.hid (bTr HB.out hb); clear hb hw))
  go_ret
  exact ⟨rfl, HB.out⟩

end Go.Proofs.Ytffjbngelapmmaa
