/- StampEven: the middle one of some times is one of them; by a rate and its other way a time is what it was, but for some parts. -/
import Derived.Test.YtglmkjnhkjljpaaMiddles
import Derived.Test.YtglmkjnhkjljpaaEvenV
import Derived.Test.YtglmkjnhkjljpaaLow
namespace Go.Proofs.Ytglmkjnhkjljpaa
open Go.RowKit Go.Joins

theorem even_long (p : Option Addr) (n c : Nat) (s m : Int) (hn : 60 < n) (w : World) :
    Calls Try.prog 9 #[.slice p n c, .int .i64 s, .int .i64 m] w fun e w' => e = .returned (.bool true) ∧ Below w.heap.size w w' := by
  have HH := head_ret
  go_enter Try.func9, Try.ntmps9
  go_wp2_with (go_at_call 10; (with_reducible refine (HH.go _).mono ?_); rintro e w1 ⟨rfl, hb⟩)
  go_ret
  exact ⟨rfl, hb⟩

set_option maxHeartbeats 4000000 in
set_option maxRecDepth 20000 in
theorem even_empty (p : Option Addr) (c : Nat) (s m X k y q z : Int) (hX : bits BinOp.and IntKind.i64 s 281474976710655 = X) (hm : bits BinOp.and IntKind.i64 m 1023 = k) (k0 : 0 ≤ k) (k1 : k < 1024) (_ : 0 ≤ X) (_ : X < 281474976710656) (d1 : -256 ≤ z - X) (d2 : z - X ≤ 256)
    (H1 : Ret 21 #[.int .i64 X, .int .i64 (2199023255552 + (k - 512) * 2199023)] (.tuple #[.int .i64 y, .int .i64 0]))
    (H2 : Ret 25 #[.int .i64 (2199023255552 + (k - 512) * 2199023)] (.tuple #[.int .i64 q, .int .i64 0]))
    (H3 : Ret 21 #[.int .i64 y, .int .i64 q] (.tuple #[.int .i64 z, .int .i64 0])) (w : World) :
    Calls Try.prog 9 #[.slice p 0 c, .int .i64 s, .int .i64 m] w fun e w' => e = .returned (.bool true) ∧ Below w.heap.size w w' := by
  have HH := head_ret
  go_enter Try.func9, Try.ntmps9
  go_wp2_with (go_at_call 10; (with_reducible refine (HH.go _).mono ?_); rintro e w1 ⟨rfl, hb⟩; have HB := Lib.hid hb; clear hb)
  go_loopw [7, 34] (fun v iv wr => v = .slice (some ⟨w1.heap.size, 0, none⟩) 0 0 ∧ iv = .int .i64 0 ∧ Below w.heap.size w wr) (fun _ _ _ => 0)
  case atStart => exact ⟨rfl, rfl, bAl HB.out _⟩
  case round =>
    clear HB
    obtain ⟨rfl, rfl, hb⟩ := hrel
    have HB := Lib.hid hb
    clear hb
    go_wp2_with (first
      | (go_at_call 22; (with_reducible refine (middle_none _ _ _).mono ?_); rintro e w2 ⟨rfl, hb⟩; replace HB := Lib.hid (bTr' HB.out hb); clear hb)
      | (go_at_call 21; (with_reducible refine (H1.go _).mono ?_); rintro e w3 ⟨rfl, hb⟩; replace HB := Lib.hid (bTr' HB.out hb); clear hb)
      | (go_at_call 25; (with_reducible refine (H2.go _).mono ?_); rintro e w4 ⟨rfl, hb⟩; replace HB := Lib.hid (bTr' HB.out hb); clear hb)
      | (go_at_call 21; (with_reducible refine (H3.go _).mono ?_); rintro e w5 ⟨rfl, hb⟩; replace HB := Lib.hid (bTr' HB.out hb); clear hb))
    go_ret
    exact ⟨by simp, HB.out⟩

def EvenRel (xs : List Int) (x : Int) (bv av fv iv : Value) : Prop :=
  ∃ j : Nat, j ≤ xs.length ∧ iv = .int .i64 (j : Int) ∧ bv = .int .i64 ((Med.lo (xs.take j) x : Nat) : Int) ∧ av = .int .i64 ((Med.hi (xs.take j) x : Nat) : Int) ∧ fv = .bool (decide (x ∈ xs.take j))
theorem mem_take {xs : List Int} {j : Nat} (hj : j < xs.length) (x : Int) : decide (x ∈ xs.take (j + 1)) = (decide (x ∈ xs.take j) || decide (xs.getD j 0 = x)) := by
  rw [take_snoc hj, Bool.eq_iff_iff, Bool.or_eq_true, decide_eq_true_iff, decide_eq_true_iff, decide_eq_true_iff, List.mem_append, List.mem_singleton]
  exact ⟨fun h => h.imp_right Eq.symm, fun h => h.imp_right Eq.symm⟩
theorem even_go {xs : List Int} {x y : Int} {j l e : Nat} {f : Bool} {li ei ji : Int} {fi : Bool} (hj : j < xs.length) (hy : y = xs.getD j 0) (hl : l = Med.lo (xs.take j) x) (he : e = Med.hi (xs.take j) x) (hf : f = decide (x ∈ xs.take j))
    (hli : li = (l : Int) + (if y < x then 1 else 0)) (hei : ei = (e : Int) + (if x < y then 1 else 0)) (hfi : fi = (f || decide (y = x))) (hji : ji = (j : Int) + 1) : EvenRel xs x (.int .i64 li) (.int .i64 ei) (.bool fi) (.int .i64 ji) := by
  subst hy hl he hf hli hei hfi hji
  refine ⟨j + 1, by omega, by go_num, ?_, ?_, ?_⟩
  · rw [Med.lo_take hj]; split <;> simp
  · rw [Med.hi_take hj]; split <;> simp
  · rw [mem_take hj]

set_option maxHeartbeats 8000000 in
set_option maxRecDepth 20000 in
theorem even_some (b o n c : Nat) (s m X k y q z : Int) (xs : List Int) (w : World) (h : LArg w (.slice (some ⟨b, o, none⟩) n c) xs) (hr : RdL w b o xs) (hn : xs.length = n) (h0 : 0 < n) (hl : n ≤ 60)
    (hX : bits BinOp.and IntKind.i64 s 281474976710655 = X) (hm : bits BinOp.and IntKind.i64 m 1023 = k) (k0 : 0 ≤ k) (k1 : k < 1024) (_ : 0 ≤ X) (_ : X < 281474976710656) (d1 : -256 ≤ z - X) (d2 : z - X ≤ 256)
    (H1 : Ret 21 #[.int .i64 X, .int .i64 (2199023255552 + (k - 512) * 2199023)] (.tuple #[.int .i64 y, .int .i64 0]))
    (H2 : Ret 25 #[.int .i64 (2199023255552 + (k - 512) * 2199023)] (.tuple #[.int .i64 q, .int .i64 0]))
    (H3 : Ret 21 #[.int .i64 y, .int .i64 q] (.tuple #[.int .i64 z, .int .i64 0])) :
    Calls Try.prog 9 #[.slice (some ⟨b, o, none⟩) n c, .int .i64 s, .int .i64 m] w fun e w' => e = .returned (.bool true) ∧ Below w.heap.size w w' := by
  have HH := head_ret
  have HN := Lib.hid hn
  have HR := Lib.hid hr
  have H := Lib.hid h
  have L1 := Lib.hid (show xs.length ≤ 1000000 by omega)
  have hne : ¬ xs = [] := fun e => by rw [e] at hn; simp at hn; omega
  have hx1 : (if xs = [] then 0 else Med.med xs) = Med.med xs := if_neg hne
  have hy1 : (if xs = [] then (5 : Int) else 0) = 0 := if_neg hne
  have HMX := Lib.hid hx1
  have HMY := Lib.hid hy1
  have HEV := Lib.hid (Med.med_even (l := xs) (by omega))
  have HMM := Lib.hid (Med.med_mem (l := xs) (by omega))
  clear h hn hr hne hx1 hy1
  go_enter Try.func9, Try.ntmps9
  go_wp2_with (go_at_call 10; (with_reducible refine (HH.go _).mono ?_); rintro e w1 ⟨rfl, hb⟩; have HB := Lib.hid hb; replace H := Lib.hid (H.out.below hb); replace HR := Lib.hid (HR.out.below hb); clear hb)
  go_loopw [7, 34] (fun v iv wr => CopyRel w1 xs v iv wr) (fun _ iv _ => n - (intOf iv).toNat)
  case atStart => exact ⟨0, by omega, rfl, OwnS.start w1⟩
  case round =>
    obtain ⟨i, hi, rfl, hown⟩ := hrel
    have HO := Lib.hid hown
    rw [HN.out] at hi
    clear hown
    rcases Nat.lt_or_ge i n with g | g
    · have hd : decide ((i : Int) < (n : Int)) = true := decide_eq_true (by omega)
      have hcell := ((HR.out.below HO.out.bel) (by rw [HN.out]; exact h0)).2 i (by rw [HN.out]; exact g)
      have hin := in_getD H.out.1 i
      obtain ⟨x, hx⟩ : ∃ x, x = xs.getD i 0 := ⟨_, rfl⟩
      rw [← hx] at hcell hin
      have HX := Lib.hid hx
      have HIN := Lib.hid hin
      have hl4 : (xs.take i).length + [x].length ≤ 1000000 := by rw [List.length_take, HN.out]; simp; omega
      have HL4 := Lib.hid hl4
      clear hx hin hl4
      go_wp2_with (at_builtin; refine wpList_appS rfl _ _ rfl w1 _ u7 (.slice (some ⟨wr.heap.size, 0, none⟩) 1 1) _ [x] rfl rfl (HO.out.alloc _) (LArg.one wr x HIN.out _) HL4.out ?_; intro v3 w3 hown)
      go_roundw
      case rel => exact copy_go (by rw [HN.out]; exact g) HX.out rfl hown
      case measure => simp [intOf]; omega
    · obtain rfl : i = n := by omega
      have htake : xs.take i = xs := by rw [← HN.out, List.take_length]
      rw [htake] at HO
      obtain ⟨g7, c7, hv, hc7, _, _⟩ := HO.out.form
      rw [HN.out] at hv hc7
      subst hv
      clear htake
      have hi0 : ((i : Int) == 0) = false := by rw [beq_eq_false_iff_ne]; omega
      obtain ⟨x, hx⟩ : ∃ x, x = Med.med xs := ⟨_, rfl⟩
      rw [← hx] at HEV HMM
      replace HMX := Lib.hid (HMX.out.trans hx.symm)
      clear hx
      go_wp2_with (go_at_call 22; (with_reducible refine (middle_any HO.out.arg L1.out x 0 HMX.out HMY.out).mono ?_); rintro e w2 ⟨rfl, hb⟩; replace HO := Lib.hid (HO.out.below hb); clear hb)
      go_loop [12, 13, 14, 55] (fun bv av fv iv => EvenRel xs x bv av fv iv) (fun _ _ _ iv => i - (intOf iv).toNat)
      case atStart => exact ⟨0, by omega, rfl, rfl, rfl, by simp⟩
      case round =>
        obtain ⟨j, hj, rfl, rfl, rfl, rfl⟩ := hrel
        rw [HN.out] at hj
        have hl1 := Med.lo_len (xs.take j) x
        have hl2 := Med.hi_len (xs.take j) x
        have hl3 : (xs.take j).length ≤ i := by rw [List.length_take, HN.out]; omega
        rcases Nat.lt_or_ge j i with g2 | g2
        · have hd2 : decide ((j : Int) < (i : Int)) = true := decide_eq_true (by omega)
          have hcell2 := HO.out.cell (k := j) (by rw [HN.out]; exact g2)
          obtain ⟨v, hv⟩ : ∃ v, v = xs.getD j 0 := ⟨_, rfl⟩
          rw [← hv] at hcell2
          have HV := Lib.hid hv
          obtain ⟨l, hle⟩ : ∃ l, l = Med.lo (xs.take j) x := ⟨_, rfl⟩
          obtain ⟨u, hue⟩ : ∃ u, u = Med.hi (xs.take j) x := ⟨_, rfl⟩
          obtain ⟨f, hfe⟩ : ∃ f, f = decide (x ∈ xs.take j) := ⟨_, rfl⟩
          rw [← hle] at hl1 ⊢
          rw [← hue] at hl2 ⊢
          rw [← hfe]
          have HLE := Lib.hid hle
          have HUE := Lib.hid hue
          have HFE := Lib.hid hfe
          clear hv hle hue hfe
          rcases Int.lt_trichotomy v x with t | t | t
          · have t1 : decide (v < x) = true := decide_eq_true t
            have t2 : (v == x) = false := by rw [beq_eq_false_iff_ne]; omega
            have t3 : decide (x < v) = false := decide_eq_false (by omega)
            have TT := Lib.hid (show v < x from t)
            clear t
            cases f
            all_goals
              go_wp2_with fail
              go_round
              case rel => exact even_go (by rw [HN.out]; exact g2) HV.out HLE.out HUE.out HFE.out (by rw [if_pos TT.out]) (by rw [if_neg (by have := TT.out; omega)]; simp) (by rw [decide_eq_false (show ¬ v = x by have := TT.out; omega)]; first | rfl | simp) rfl
              case measure => simp [intOf]; omega
          · have t1 : decide (v < x) = false := decide_eq_false (by omega)
            have t2 : (v == x) = true := by rw [beq_iff_eq]; exact t
            have t3 : decide (x < v) = false := decide_eq_false (by omega)
            have TT := Lib.hid (show v = x from t)
            clear t
            cases f
            all_goals
              go_wp2_with fail
              go_round
              case rel => exact even_go (by rw [HN.out]; exact g2) HV.out HLE.out HUE.out HFE.out (by rw [if_neg (by have := TT.out; omega)]; simp) (by rw [if_neg (by have := TT.out; omega)]; simp) (by rw [decide_eq_true TT.out]; first | rfl | simp) rfl
              case measure => simp [intOf]; omega
          · have t1 : decide (v < x) = false := decide_eq_false (by omega)
            have t2 : (v == x) = false := by rw [beq_eq_false_iff_ne]; omega
            have t3 : decide (x < v) = true := decide_eq_true t
            have TT := Lib.hid (show x < v from t)
            clear t
            cases f
            all_goals
              go_wp2_with fail
              go_round
              case rel => exact even_go (by rw [HN.out]; exact g2) HV.out HLE.out HUE.out HFE.out (by rw [if_neg (by have := TT.out; omega)]; simp) (by rw [if_pos TT.out]) (by rw [decide_eq_false (show ¬ v = x by have := TT.out; omega)]; first | rfl | simp) rfl
              case measure => simp [intOf]; omega
        · obtain rfl : j = i := by omega
          have htake : xs.take j = xs := by rw [← HN.out, List.take_length]
          rw [htake] at hl1 hl2 ⊢
          have hev := HEV.out
          rw [HN.out] at hev
          obtain ⟨l, hle⟩ : ∃ l, l = Med.lo xs x := ⟨_, rfl⟩
          obtain ⟨u, hue⟩ : ∃ u, u = Med.hi xs x := ⟨_, rfl⟩
          rw [← hle] at hl1 hev ⊢
          rw [← hue] at hl2 hev ⊢
          rw [decide_eq_true HMM.out]
          obtain ⟨ev1, ev2⟩ := hev
          clear htake hle hue
          go_wp2_with (first
            | (go_at_call 21; (with_reducible refine (H1.go _).mono ?_); rintro e w3 ⟨rfl, hb⟩; replace HO := Lib.hid (HO.out.below hb); clear hb)
            | (go_at_call 25; (with_reducible refine (H2.go _).mono ?_); rintro e w4 ⟨rfl, hb⟩; replace HO := Lib.hid (HO.out.below hb); clear hb)
            | (go_at_call 21; (with_reducible refine (H3.go _).mono ?_); rintro e w5 ⟨rfl, hb⟩; replace HO := Lib.hid (HO.out.below hb); clear hb))
          go_ret
          exact ⟨by simp, bTr' HB.out HO.out.bel⟩

theorem even_walk (v : Value) (xs : List Int) (a b : Int) (w : World) (h : LArg w v xs) (_ : -9223372036854775808 ≤ a) (_ : a < 9223372036854775808) (_ : -9223372036854775808 ≤ b) (_ : b < 9223372036854775808) :
    Calls Try.prog 9 #[v, .int .i64 a, .int .i64 b] w fun e w' => e = .returned (.bool true) ∧ Below w.heap.size w w' := by
  rcases Nat.lt_or_ge 60 xs.length with hn | hn
  · obtain ⟨p, c, rfl⟩ := h.slice
    exact even_long p _ c a b hn w
  have hX := and_low a 48 (by omega)
  have hk := and_low b 10 (by omega)
  change bits .and .i64 a 281474976710655 = a % 281474976710656 at hX
  change bits .and .i64 b 1023 = b % 1024 at hk
  obtain ⟨y, q, z, _, _, d1, d2, H1, H2, H3⟩ := even_vals (X := a % 281474976710656) (r := 2199023255552 + (b % 1024 - 512) * 2199023) (by omega) (by omega) (by omega) (by omega)
  have h' := h
  rcases h'.2 with ⟨rfl, p, c, rfl, _⟩ | ⟨h0, bb, o, c, rfl, hc, hr⟩
  · exact even_empty p c a b _ _ y q z hX hk (by omega) (by omega) (by omega) (by omega) d1 d2 H1 H2 H3 w
  · exact even_some bb o _ c a b _ _ y q z xs w h hr rfl h0 hn hX hk (by omega) (by omega) (by omega) (by omega) d1 d2 H1 H2 H3

end Go.Proofs.Ytglmkjnhkjljpaa
