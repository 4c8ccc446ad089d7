/- For every slice of steps LanesStrict answers true: with time enough for all, what is picked is of no lower class than anything that waits, and of one class in the order in which it came. No condition. -/
import Derived.Test.YtdjefbnoaclmfaaFLanesStrict
import Derived.Test.YtdjefbnoaclmfaaLnWays
namespace Go.Proofs.Ytdjefbnoaclmfaa
open Go.RowKit Go.Joins

/-- What waits: frames of the first n, each in its class, in order. -/
structure SI (n : Nat) (Z : Nat → Int) (s : LS) : Prop where
  mem : ∀ c, c < 8 → ∀ x ∈ s.q c, ∃ j : Nat, j < n ∧ x.1 = (j : Int) ∧ Z j % 8 = (c : Int) ∧ 0 ≤ x.2.1 ∧ x.2.1 ≤ 1023
  ord : ∀ c, c < 8 → (s.q c).Pairwise (fun x y => x.1 < y.1)
section
variable {n : Nat} {Z : Nat → Int} {s : LS}
theorem SI.more (h : SI n Z s) {c : Nat} (hc : Z n % 8 = (c : Int)) {z : Int} (h0 : 0 ≤ z) (h1 : z ≤ 1023) (d : Bool) : SI (n + 1) Z { s with q := upd s.q c (s.q c ++ [((n : Int), z, d)]) } := by
  refine ⟨fun e he x hx => ?_, fun e he => ?_⟩
  · change x ∈ upd s.q c _ e at hx
    by_cases k : e = c
    · subst k
      rw [upd_same] at hx
      rcases List.mem_append.1 hx with hx | hx
      · obtain ⟨j, a, b⟩ := h.mem e he x hx
        exact ⟨j, by omega, b⟩
      · simp at hx
        subst hx
        exact ⟨n, by omega, rfl, hc, h0, h1⟩
    · rw [upd_other _ _ k] at hx
      obtain ⟨j, a, b⟩ := h.mem e he x hx
      exact ⟨j, by omega, b⟩
  · show (upd s.q c _ e).Pairwise _
    by_cases k : e = c
    · subst k
      rw [upd_same, List.pairwise_append]
      refine ⟨h.ord e he, by simp, fun x hx y hy => ?_⟩
      simp at hy
      subst hy
      obtain ⟨j, a, b, _⟩ := h.mem e he x hx
      show x.1 < (n : Int)
      omega
    · rw [upd_other _ _ k]
      exact h.ord e he
theorem SI.pop (h : SI n Z s) {c : Nat} {x : It} {L : List It} (hc : c < 8) (hq : s.q c = x :: L) : SI n Z { s with q := upd s.q c L } := by
  refine ⟨fun e he y hy => ?_, fun e he => ?_⟩
  · change y ∈ upd s.q c L e at hy
    by_cases k : e = c
    · subst k
      rw [upd_same] at hy
      exact h.mem e he y (by rw [hq]; exact List.mem_cons_of_mem _ hy)
    · rw [upd_other _ _ k] at hy
      exact h.mem e he y hy
  · show (upd s.q c L e).Pairwise _
    by_cases k : e = c
    · subst k
      have := h.ord e he
      rw [hq] at this
      rw [upd_same]
      exact (List.pairwise_cons.1 this).2
    · rw [upd_other _ _ k]
      exact h.ord e he
theorem SI.hasFit (h : SI n Z s) {c : Nat} (hc : c < 8) {x : It} {L : List It} (hq : s.q c = x :: L) : fits s (fun _ => 1048576) c := by
  obtain ⟨j, _, _, _, h0, h1⟩ := h.mem c hc x (by rw [hq]; exact List.mem_cons_self ..)
  exact ⟨x, L, hq, show 8 * x.2.1 ≤ 1048576 by omega⟩
theorem SI.nofit (h : SI n Z s) {c : Nat} (hc : c < 8) (hf : ¬ fits s (fun _ => 1048576) c) : s.q c = [] := by
  rcases hq : s.q c with _ | ⟨x, L⟩
  · rfl
  · exact absurd (h.hasFit hc hq) hf
theorem tot_zero : ∀ k, (∀ c, c < k → s.q c = []) → s.tot k = 0
  | 0, _ => rfl
  | k + 1, h => by
    show s.tot k + (s.q k).length = 0
    rw [tot_zero k (fun c hc => h c (by omega)), h k (by omega)]
    rfl
theorem tot_len : ∀ k c, c < k → (s.q c).length ≤ s.tot k
  | 0, c, h => by omega
  | k + 1, c, h => by
    show _ ≤ s.tot k + (s.q k).length
    rcases Nat.lt_or_ge c k with g | g
    · have := tot_len k c g
      omega
    · obtain rfl : c = k := by omega
      omega
end
def StrRel (w : World) (b n : Nat) (Z : Nat → Int) (nv iv : Value) (wr : World) : Prop :=
  ∃ (k : Nat) (s : LS) (F : Nat → Prop), iv = .int .i64 (k : Int) ∧ nv = .int .i64 (k : Int) ∧ k ≤ n ∧ s.Good ∧ s.r = (fun _ => 100) ∧ SI k Z s ∧ s.tot 8 = k ∧ LnB w wr b F s
def PckRel (w : World) (b n : Nat) (Z : Nat → Int) (lv dv kv : Value) (wr : World) : Prop :=
  ∃ (k : Nat) (s : LS) (F : Nat → Prop) (last id : Int), kv = .int .i64 (k : Int) ∧ lv = .int .i64 last ∧ dv = .int .i64 id ∧ k ≤ n ∧ s.Good ∧ SI n Z s ∧ s.tot 8 + k = n ∧ (∀ c : Nat, c < 8 → last < (c : Int) → s.q c = []) ∧ (∀ c : Nat, c < 8 → (c : Int) = last → ∀ x ∈ s.q c, id < x.1) ∧ LnB w wr b F s
theorem r100_ok : okR (fun _ => 100) 8 := fun _ _ => ⟨show (0 : Int) ≤ 100 by decide, show (100 : Int) ≤ 4096 by decide⟩
/-- The classes of the steps. -/
theorem step_classes {w : World} {ab ao n : Nat} {F : Nat → List Value} (hF : ∀ k, k < n → Oksandglasslaw15Step (F k) ∧ (F k).length = 13 ∧ ∀ j, j < 13 → w.cell? ⟨ab, ao + k * 13 + j, none⟩ = (F k)[j]?) : ∃ Z : Nat → Int, ∀ k, k < n → w.cell? ⟨ab, ao + k * 13 + 1, none⟩ = some (.int .i64 (Z k)) := by
  have each : ∀ k, k < n → ∃ z : Int, w.cell? ⟨ab, ao + k * 13 + 1, none⟩ = some (.int .i64 z) := fun k hk => by
    obtain ⟨⟨z0, z1, z2, z3, z4, z5, z6, z7, z8, z9, z10, z11, z12, hz, _⟩, _, hc⟩ := hF k hk
    exact ⟨z1, (hc 1 (by omega)).trans (by rw [hz]; rfl)⟩
  obtain ⟨Z, hZ⟩ := Go.Deep.choose_lt each
  exact ⟨Z, hZ⟩
set_option maxRecDepth 20000 in
set_option maxHeartbeats 8000000 in
theorem lstrict_any (p : Option Addr) (n c : Nat) (w : World) (ha : SlArg 13 Oksandglasslaw15Step w (.slice p n c) n) :
    Calls Try.prog 4 #[.slice p n c] w fun e w' => e = .returned (.bool true) ∧ Below w.heap.size w w' := by
  have HH := Lib.hid lhead_ret
  have HE : Hid (∀ n W, Calls Try.prog 10 #[.int .i64 n] W fun e w' => e = .returned (V8 n n n n n n n n) ∧ Below W.heap.size W w') := Lib.hid (fun n W => eight_ret n W)
  have HN : Hid (∀ W, Below w.heap.size w W → Calls Try.prog 8 #[V8 100 100 100 100 100 100 100 100] W fun e w' => ∃ b, e = .returned (.tuple #[.pointer (some ⟨b, 0, none⟩), .int .i64 0]) ∧ W.heap.size ≤ b ∧ LnB w w' b (fun k => k = b) (LS.new (fun _ => 100)) ∧ Below W.heap.size W w') := Lib.hid (fun W hW => new_yes _ r100_ok w W hW)
  have HA := Lib.hid ha
  clear ha
  by_cases hn : 60 < n
  · have d0 : decide ((60 : Int) < (n : Int)) = true := decide_eq_true (by omega)
    clear hn
    go_enter Try.func4, Try.ntmps4
    go_wp2_with (go_at_call 7; (with_reducible refine (HH.out _).mono ?_); rintro e x1 ⟨rfl, hb⟩; have HB := Lib.hid hb; clear hb)
    go_ret
    exact ⟨rfl, HB.out⟩
  have d0 : decide ((60 : Int) < (n : Int)) = false := decide_eq_false (by omega)
  have HNN : Hid (n ≤ 60) := Lib.hid (by omega)
  clear hn
  go_enter Try.func4, Try.ntmps4
  go_wp2_with (first
    | (go_at_call 7; (with_reducible refine (HH.out _).mono ?_); rintro e x1 ⟨rfl, hb⟩; have HB := Lib.hid hb; clear hb)
    | (go_at_call 10; (with_reducible refine (HE.out 100 _).mono ?_); rintro e x2 ⟨rfl, hb⟩; have HB2 := Lib.hid (bTr HB.out hb); clear hb)
    | (go_at_call 8; (with_reducible refine (HN.out _ HB2.out).mono ?_); rintro e x3 ⟨b, rfl, hlo, hm, hb⟩; have HM2 := Lib.hid hm; clear hlo hm hb))
  obtain ⟨Z, hZ⟩ : ∃ Z : Nat → Int, ∀ ab ao, p = some ⟨ab, ao, none⟩ → ab < w.heap.size → ∀ k, k < n → w.cell? ⟨ab, ao + k * 13 + 1, none⟩ = some (.int .i64 (Z k)) := by
    rcases Nat.eq_zero_or_pos n with h0 | h0
    · exact ⟨fun _ => 0, fun _ _ _ _ k hk => by omega⟩
    · obtain ⟨ab, ao, Fa, rfl, hab, hF⟩ := SlArg.at HA.out h0
      obtain ⟨Z, hZ⟩ := step_classes hF
      exact ⟨Z, fun ab' ao' e _ k hk => by injection e with e; injection e with e1 e2; subst e1 e2; exact hZ k hk⟩
  have HZ := Lib.hid hZ
  clear hZ
  go_loopw [5, 32] (fun nv iv wr => StrRel w b n Z nv iv wr) (fun _ iv _ => n - (intOf iv).toNat)
  case atStart => exact ⟨0, _, _, rfl, rfl, by omega, new_good _, rfl, ⟨fun c _ x hx => (by cases hx), fun c _ => List.Pairwise.nil⟩, tot_new _ 8, HM2.out⟩
  case round =>
    clear HM2 HB HB2 HN HH
    obtain ⟨k, s, F, rfl, rfl, hk, hg, hr, hi, ht, hl⟩ := hrel
    have HT := Lib.hid ht
    have HG := Lib.hid hg
    have HL := Lib.hid hl
    have HRR := Lib.hid hr
    have HI := Lib.hid hi
    have hn := HNN.out
    clear ht hg hl hr hi
    rcases Nat.lt_or_ge k n with g1 | g1
    · have hd : decide ((k : Int) < (n : Int)) = true := decide_eq_true (by omega)
      obtain ⟨ab, ao, Fa, rfl, hab, hF⟩ := SlArg.at HA.out (by omega)
      have hz1 := HZ.out ab ao rfl hab k g1
      obtain ⟨⟨z0, z1, z2, z3, z4, z5, z6, z7, z8, z9, z10, z11, z12, hz, bs⟩, hlen, hc⟩ := hF k g1
      rw [hz] at hc
      have hzz : z1 = Z k := by
        have := (hc 1 (by omega)).symm.trans hz1
        simp at this
        exact this
      have hq := fun j hj => (HL.out.bel.cell (p := ⟨ab, ao + k * 13 + j, none⟩) hab).trans (hc j hj)
      have q0 := hq 0 (by omega)
      have q1 := hq 1 (by omega)
      have q2 := hq 2 (by omega)
      have q3 := hq 3 (by omega)
      have q4 := hq 4 (by omega)
      have q5 := hq 5 (by omega)
      have q6 := hq 6 (by omega)
      have q7 := hq 7 (by omega)
      have q8 := hq 8 (by omega)
      have q9 := hq 9 (by omega)
      have q10 := hq 10 (by omega)
      have q11 := hq 11 (by omega)
      have q12 := hq 12 (by omega)
      rw [Nat.add_zero] at q0
      simp only [List.getElem?_cons_zero, List.getElem?_cons_succ] at q0 q1 q2 q3 q4 q5 q6 q7 q8 q9 q10 q11 q12
      have hlow := low3 z1
      have hlow2 := low10 z3
      obtain ⟨cc, hcc⟩ : ∃ cc : Nat, z1 % 8 = (cc : Int) := ⟨(z1 % 8).toNat, by omega⟩
      have hc8 : cc < 8 := by omega
      have hs0 : 0 ≤ z3 % 1024 := by omega
      have hs1 : z3 % 1024 ≤ 1023 := by omega
      rw [hcc] at hlow
      rw [hzz] at hcc
      generalize z3 % 1024 = y at *
      have hll := tot_len (s := s) 8 cc hc8
      rw [HT.out] at hll
      have hfull : s.full cc false = false := by
        unfold LS.full
        rw [HRR.out]
        simp
        omega
      have epu : s.pute (cc : Int) ((k : Int), y, false) = 0 := by
        unfold LS.pute
        rw [if_neg (show ¬ (y < 0 ∨ 1600 < y) by omega), if_neg (by omega), show (cc : Int).toNat = cc by omega]
        rw [if_neg (by rw [hfull]; decide)]
      have ept : s.put (cc : Int) ((k : Int), y, false) = { s with q := upd s.q cc (s.q cc ++ [((k : Int), y, false)]) } := by
        unfold LS.put
        rw [epu, if_pos rfl, show (cc : Int).toNat = cc by omega]
      have HX : Hid (∀ W, LnB w W b F s → Calls Try.prog 11 #[.pointer (some ⟨b, 0, none⟩), .int .i64 (cc : Int), .agg #[.int .i64 (k : Int), .int .i64 y, .bool false]] W fun e w' => e = .returned (.int .i64 0) ∧ Left w W b F { s with q := upd s.q cc (s.q cc ++ [((k : Int), y, false)]) } w') := Lib.hid (fun W h => by
        have key := putB h HG.out (cc : Int) ((k : Int), y, false)
        rw [epu, ept] at key
        exact key)
      have HI2 := Lib.hid (HI.out.more hcc hs0 hs1 false)
      have HG2 : Hid (LS.Good { s with q := upd s.q cc (s.q cc ++ [((k : Int), y, false)]) }) := Lib.hid (by
        have key := HG.out.put (by rw [HRR.out]; exact r100_ok) (cc : Int) ((k : Int), y, false)
        rw [ept] at key
        exact key)
      have HT2 : Hid (LS.tot { s with q := upd s.q cc (s.q cc ++ [((k : Int), y, false)]) } 8 = k + 1) := Lib.hid (by
        have key := tot_put s (cc : Int) ((k : Int), y, false)
        rw [ept, epu, HT.out] at key
        exact key)
      clear hq hc hlen hz hF bs hz1 hzz hcc hs0 hs1 hll hfull epu ept
      go_wp2_with (go_at_call 11; (with_reducible refine (HX.out _ (HL.out.alloc _)).mono ?_); rintro e x3 ⟨rfl, F', hm, _, _⟩; have HM3 := Lib.hid hm; clear hm)
      go_roundw
      case rel => exact ⟨k + 1, _, F', by go_num, by go_num, by omega, HG2.out, HRR.out, HI2.out, HT2.out, HM3.out⟩
      case measure => simp [intOf]; omega
    · obtain rfl : k = n := by omega
      have hd : decide ((k : Int) < (k : Int)) = false := decide_eq_false (by omega)
      go_wp2_with fail
      go_loopw [9, 10, 11] (fun lv dv kv wr => PckRel w b k Z lv dv kv wr) (fun _ _ kv _ => k - (intOf kv).toNat)
      case atStart => exact ⟨0, s, F, 8, -1, rfl, rfl, rfl, by omega, HG.out, HI.out, by rw [HT.out]; rfl, fun c h1 h2 => by omega, fun c h1 h2 => by omega, HL.out⟩
      case round =>
        clear HL HT HG HRR HI
        obtain ⟨i, t, G, last, id, rfl, rfl, rfl, hi, hg, hsi, ht, hla, hid, hl⟩ := hrel
        have HT := Lib.hid ht
        have HG := Lib.hid hg
        have HL := Lib.hid hl
        have HI := Lib.hid hsi
        have HLA := Lib.hid hla
        have HID := Lib.hid hid
        clear ht hg hl hla hid hsi
        rcases Nat.lt_or_ge i k with g2 | g2
        · have hd2 : decide ((i : Int) < (k : Int)) = true := decide_eq_true (by omega)
          rcases pick_ways t (fun _ => 1048576) with hno | ⟨cc, x, L, hc8, hq, hx, hm⟩
          · have := tot_zero (s := t) 8 (fun c hc => HI.out.nofit hc (hno c hc))
            have := HT.out
            omega
          obtain ⟨x0, x1, x2⟩ := x
          obtain ⟨j, hj, ej, eZ, _, _⟩ := HI.out.mem cc hc8 _ (by rw [hq]; exact List.mem_cons_self ..)
          dsimp only at ej
          subst ej
          have HX : Hid (∀ W, LnB w W b G t → Calls Try.prog 9 #[.pointer (some ⟨b, 0, none⟩), V8 1048576 1048576 1048576 1048576 1048576 1048576 1048576 1048576] W fun e w' => e = .returned (.tuple #[.int .i64 (cc : Int), .agg #[.int .i64 (j : Int), .int .i64 x1, .bool x2], .bool true]) ∧ Left w W b G { t with q := upd t.q cc L } w') := Lib.hid (fun W h => pickB_some (left := fun _ => 1048576) h HG.out hc8 hq hx hm)
          have HG2 := Lib.hid (HG.out.pop hc8 hq)
          have HI2 := Lib.hid (HI.out.pop hc8 hq)
          have HE2 := Lib.hid (tot_pop hc8 hq)
          have hle : (cc : Int) ≤ last := by
            rcases Int.lt_or_le last (cc : Int) with g | g
            · have := HLA.out cc hc8 g
              rw [hq] at this
              cases this
            · exact g
          have heq : (cc : Int) = last → id < (j : Int) := fun e => HID.out cc hc8 e _ (by rw [hq]; exact List.mem_cons_self ..)
          have HLA2 : Hid (∀ c : Nat, c < 8 → (cc : Int) < (c : Int) → LS.q { t with q := upd t.q cc L } c = []) := Lib.hid (fun c h1 h2 => by
            show upd t.q cc L c = []
            rw [upd_other _ _ (by omega)]
            exact HI.out.nofit h1 (hm c (by omega) h1))
          have HID2 : Hid (∀ c : Nat, c < 8 → (c : Int) = (cc : Int) → ∀ y ∈ LS.q { t with q := upd t.q cc L } c, (j : Int) < y.1) := Lib.hid (fun c h1 h2 y hy => by
            obtain rfl : c = cc := by omega
            change y ∈ upd t.q c L c at hy
            rw [upd_same] at hy
            have := HI.out.ord c h1
            rw [hq] at this
            exact (List.pairwise_cons.1 this).1 y hy)
          obtain ⟨ab, ao, Fa, rfl, hab, hF⟩ := SlArg.at HA.out (by omega)
          have HZ1 := Lib.hid (HZ.out ab ao rfl hab j hj)
          have hlow := low3 (Z j)
          rw [eZ] at hlow
          have d1 : decide (last < (cc : Int)) = false := decide_eq_false (by omega)
          have d3 : decide ((j : Int) < 0) = false := decide_eq_false (by omega)
          have d4 : decide ((k : Int) ≤ (j : Int)) = false := decide_eq_false (by omega)
          have i1 : (0 : Int) ≤ (j : Int) := by omega
          have i2 : (j : Int) < (k : Int) := by omega
          have HAB := Lib.hid hab
          generalize ({ t with q := upd t.q cc L } : LS) = t' at *
          clear hc8 hq hx hm eZ hj hF hab
          by_cases e2 : (cc : Int) = last
          · have d2 : ((cc : Int) == last) = true := by rw [beq_iff_eq]; exact e2
            have d5 : decide ((j : Int) ≤ id) = false := decide_eq_false (by have := heq e2; omega)
            clear heq e2 hle
            go_wp2_with (first
              | (go_at_call 10; (with_reducible refine (HE.out 1048576 _).mono ?_); rintro e y2 ⟨rfl, hb⟩; have HL2 := Lib.hid (HL.out.below hb); clear hb)
              | (go_at_call 9; (with_reducible refine (HX.out _ HL2.out).mono ?_); rintro e y3 ⟨rfl, F', hm, _, _⟩; have HM3 := Lib.hid (hm.alloc (.cells #[.int .i64 (j : Int), .int .i64 x1, .bool x2] 30)); have qz := (HM3.out.bel.cell (p := ⟨ab, ao + j * 13 + 1, none⟩) HAB.out).trans HZ1.out; clear hm))
            go_roundw
            case rel => exact ⟨i + 1, t', F', cc, j, by go_num, rfl, rfl, by omega, HG2.out, HI2.out, by have := HT.out; have := HE2.out; omega, HLA2.out, HID2.out, HM3.out⟩
            case measure => simp [intOf]; omega
          · have d2 : ((cc : Int) == last) = false := by rw [beq_eq_false_iff_ne]; exact e2
            clear heq e2 hle
            go_wp2_with (first
              | (go_at_call 10; (with_reducible refine (HE.out 1048576 _).mono ?_); rintro e y2 ⟨rfl, hb⟩; have HL2 := Lib.hid (HL.out.below hb); clear hb)
              | (go_at_call 9; (with_reducible refine (HX.out _ HL2.out).mono ?_); rintro e y3 ⟨rfl, F', hm, _, _⟩; have HM3 := Lib.hid (hm.alloc (.cells #[.int .i64 (j : Int), .int .i64 x1, .bool x2] 30)); have qz := (HM3.out.bel.cell (p := ⟨ab, ao + j * 13 + 1, none⟩) HAB.out).trans HZ1.out; clear hm))
            go_roundw
            case rel => exact ⟨i + 1, t', F', cc, j, by go_num, rfl, rfl, by omega, HG2.out, HI2.out, by have := HT.out; have := HE2.out; omega, HLA2.out, HID2.out, HM3.out⟩
            case measure => simp [intOf]; omega
        · have hd2 : decide ((i : Int) < (k : Int)) = false := decide_eq_false (by omega)
          have HX : Hid (∀ W, LnB w W b G t → Calls Try.prog 9 #[.pointer (some ⟨b, 0, none⟩), V8 1048576 1048576 1048576 1048576 1048576 1048576 1048576 1048576] W fun e w' => e = .returned (.tuple #[.int .i64 0, .agg #[.int .i64 0, .int .i64 0, .bool false], .bool false]) ∧ Left w W b G t w') := Lib.hid (fun W h => pickB_none (left := fun _ => 1048576) h HG.out (fun c hc hf => by
            obtain ⟨x, L, hq, _⟩ := hf
            have := tot_len (s := t) 8 c hc
            rw [hq] at this
            simp at this
            have := HT.out
            omega))
          go_wp2_with (first
            | (go_at_call 10; (with_reducible refine (HE.out 1048576 _).mono ?_); rintro e y2 ⟨rfl, hb⟩; have HL2 := Lib.hid (HL.out.below hb); clear hb)
            | (go_at_call 9; (with_reducible refine (HX.out _ HL2.out).mono ?_); rintro e y3 ⟨rfl, F', hm, _, _⟩; have HM3 := Lib.hid (hm.alloc (.cells #[.int .i64 0, .int .i64 0, .bool false] 30)); clear hm))
          go_ret
          exact ⟨rfl, HM3.out.bel⟩

theorem lanesStrict_holds : Rows.LanesStrictSaid := lanesStrict_of (fun v n w ha => by
  obtain ⟨p, c, rfl⟩ := ha.slice
  exact lstrict_any p n c w ha)

end Go.Proofs.Ytdjefbnoaclmfaa
