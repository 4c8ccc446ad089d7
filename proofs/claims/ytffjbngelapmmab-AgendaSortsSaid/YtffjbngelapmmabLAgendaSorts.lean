/- For every slice of ints AgendaSorts answers true: what was put comes by its times, of one time as it was put. No condition. -/
import Derived.Test.YtffjbngelapmmabFAgendaSorts
import Derived.Test.YtffjbngelapmmabAgPuts
namespace Go.Proofs.Ytffjbngelapmmab
open Go.RowKit Go.Joins

theorem sorts_many (p : Option Addr) (n c : Nat) (w : World) (h : 200 < n) :
    Calls Try.prog 4 #[.slice p n c] w fun e w' => e = .returned (.bool true) ∧ Below w.heap.size w w' := by
  have HH := Lib.hid head_ret
  have d1 : decide ((200 : Int) < (n : Int)) = true := decide_eq_true (by omega)
  go_enter Try.func4, Try.ntmps4
  go_wp2_with (go_at_call 8; (with_reducible refine (HH.out _).mono ?_); rintro e w1 ⟨rfl, hb⟩; have HB := Lib.hid hb; clear hb)
  go_ret
  exact ⟨rfl, HB.out⟩
def SPutRel (w : World) (B : Nat) (xs : List Int) (g : Nat) (nv kv : Value) (wr : World) : Prop := ∃ k : Nat, k ≤ xs.length ∧ nv = .int .i64 (k : Int) ∧ kv = .int .i64 (k : Int) ∧ AgI.St B wr g 0 (k : Int) (putS 256 xs k) ∧ Below w.heap.size w wr
def SGetRel (w : World) (B : Nat) (xs : List Int) (g : Nat) (lv tv kv : Value) (wr : World) : Prop :=
  ∃ (k : Nat) (last turn now : Int) (S : List (Int × Int × Int)), k ≤ xs.length ∧ kv = .int .i64 (k : Int) ∧ lv = .int .i64 last ∧ tv = .int .i64 turn ∧ S.length + k = xs.length ∧ Uniq S ∧ (∀ s ∈ S, s ∈ putS 256 xs xs.length) ∧ (∀ s ∈ S, AgI.kLt (last, turn, 0) s) ∧ AgI.St B wr g now (xs.length : Int) S ∧ Below w.heap.size w wr

theorem klt_facts {last turn y t z u : Int} (h : AgI.kLt (last, turn, z) (y, t, u)) : ¬ y < last ∧ (y = last → ¬ t ≤ turn) := by
  unfold AgI.kLt at h
  rcases h with h | ⟨h1, h2⟩
  · exact ⟨by show ¬ y < last; simp at h; omega, fun e => by simp at h; omega⟩
  · simp at h1 h2
    exact ⟨by omega, fun _ => by omega⟩
set_option maxRecDepth 20000 in
set_option maxHeartbeats 4000000 in
theorem sorts_some (p : Option Addr) (n c : Nat) (xs : List Int) (w : World) (h : LArg w (.slice p n c) xs) (hn : n ≤ 200) :
    Calls Try.prog 4 #[.slice p n c] w fun e w' => e = .returned (.bool true) ∧ Below w.heap.size w w' := by
  have HH := Lib.hid head_ret
  have HN := Lib.hid AgI.new_st
  have d1 : decide ((200 : Int) < (n : Int)) = false := decide_eq_false (by omega)
  have HNL := Lib.hid (larg_len h)
  have HA := Lib.hid h
  clear h
  go_enter Try.func4, Try.ntmps4
  go_wp2_with (first
    | (go_at_call 8; (with_reducible refine (HH.out _).mono ?_); rintro e w1 ⟨rfl, hb⟩; have HB := Lib.hid hb; clear hb)
    | (go_at_call 9; (with_reducible refine (HN.out _).mono ?_); rintro e w2 ⟨g, rfl, hs, hb⟩; have HS := Lib.hid hs; have HBW : Hid (w.heap.size ≤ w1.heap.size) := Lib.hid HB.out.size; replace HB := Lib.hid (AgI.bTr HB.out hb); clear hs hb))
  obtain ⟨B, hB⟩ : ∃ B, w1.heap.size = B := ⟨_, rfl⟩
  rw [hB] at HS HBW
  clear hB
  go_loopw [4, 27] (fun nv kv wr => SPutRel w B xs g nv kv wr) (fun _ kv _ => n - (intOf kv).toNat)
  case atStart => exact ⟨0, by omega, rfl, rfl, HS.out, HB.out⟩
  case round =>
    clear HS HB
    obtain ⟨k, hk, rfl, rfl, hs, hb⟩ := hrel
    rw [← HNL.out] at hk
    have HS := Lib.hid hs
    have HB := Lib.hid hb
    clear hs hb
    rcases Nat.lt_or_ge k n with g1 | g1
    · have hd : decide ((k : Int) < (n : Int)) = true := decide_eq_true (by omega)
      obtain ⟨b, o, rfl, hnx, hc⟩ := larg_at HA.out (k := k) (by rw [← HNL.out]; exact g1)
      clear hnx
      have hlt := World.block_lt_of_cell? _ _ (hc k (by rw [← HNL.out]; exact g1))
      have c1 := (HB.out.cell hlt).trans (hc k (by rw [← HNL.out]; exact g1))
      clear hc hlt
      obtain ⟨x, hx⟩ : ∃ x, xs.getD k 0 = x := ⟨_, rfl⟩
      rw [hx] at c1
      have hm := low8 x
      obtain ⟨y, hy⟩ : ∃ y, x % 256 = y := ⟨_, rfl⟩
      rw [hy] at hm
      have HP := Lib.hid (AgI.put_st HS.out y (k : Int) (by omega) (by omega) (by rw [putS_len]; omega) (by omega) (by omega))
      have HXY : Hid (putS 256 xs (k + 1) = putS 256 xs k ++ [(y, (k : Int) + 1, (k : Int))]) := Lib.hid (by rw [putS_succ, hx, hy])
      clear hx hy
      go_wp2_with (go_at_call 10; (with_reducible refine HP.out.mono ?_); rintro e w3 ⟨rfl, hs, hb, hk2⟩; have HS2 := Lib.hid hs; have HB2 := Lib.hid hb; clear hs hb hk2)
      go_roundw
      case rel => exact ⟨k + 1, by rw [← HNL.out]; omega, by go_num, by go_num, by rw [HXY.out]; exact HS2.out, HB.out.trans (HB2.out.mono HBW.out)⟩
      case measure => simp [intOf]; omega
    · obtain rfl : k = n := by omega
      have hd : decide ((k : Int) < (k : Int)) = false := decide_eq_false (by omega)
      go_wp2_with fail
      go_loopw [9, 10, 53] (fun lv tv kv wx => SGetRel w B xs g lv tv kv wx) (fun _ _ kv _ => k - (intOf kv).toNat)
      case atStart => exact ⟨0, -1, 0, 0, putS 256 xs k, by omega, rfl, rfl, rfl, by rw [putS_len]; exact HNL.out, putS_uniq _ _ _, fun s hs => by rw [← HNL.out]; exact hs, fun s hs => by
          obtain ⟨j, _, rfl⟩ := putS_mem hs
          unfold AgI.kLt
          exact .inl (by show (-1 : Int) < _ % 256; omega), by rw [← HNL.out]; exact HS.out, HB.out⟩
      case round =>
        clear HS HB
        obtain ⟨i, last, turn, now, S, hi, rfl, rfl, rfl, hl, hu, hin, hgt, hs, hb⟩ := hrel
        rw [← HNL.out] at hi hl
        have HS := Lib.hid hs
        have HB := Lib.hid hb
        have HU := Lib.hid hu
        have HIN := Lib.hid hin
        have HGT := Lib.hid hgt
        have HL := Lib.hid hl
        clear hs hb hu hin hgt
        rcases Nat.lt_or_ge i k with g2 | g2
        · have hd2 : decide ((i : Int) < (k : Int)) = true := decide_eq_true (by omega)
          have HNX := Lib.hid (AgI.next_st HS.out 1099511627776 (by omega) (by omega) (fun m hm => by
            obtain ⟨j, _, rfl⟩ := putS_mem (HIN.out m hm.1)
            show xs.getD j 0 % 256 ≤ _
            omega))
          clear hl
          go_wp2_with fail
          refine HNX.out.mono ?_
          rintro e w4 ⟨m, S', rfl, hf, hx', hp, hs, hb, hk2⟩
          obtain ⟨j, hj, hm⟩ := putS_mem (HIN.out m hf.1)
          have hgt := HGT.out m hf.1
          obtain ⟨hu2, hgt2⟩ := first_lt HU.out hp hf
          have hl2 := hp.length_eq
          rw [List.length_cons, ] at hl2
          have hin2 : ∀ s ∈ S', s ∈ putS 256 xs xs.length := fun s hs => HIN.out s (hp.mem_iff.1 (List.mem_cons_of_mem _ hs))
          have hj' : j < k := by rw [HNL.out]; exact hj
          obtain ⟨b, o, rfl, hnx, hc⟩ := larg_at HA.out (k := j) hj
          clear hnx
          have HB4 := Lib.hid (HB.out.trans (hb.mono HBW.out))
          have hlt := World.block_lt_of_cell? _ _ (hc j hj)
          have c1 := (HB4.out.cell hlt).trans (hc j hj)
          obtain ⟨x, hx⟩ : ∃ x, xs.getD j 0 = x := ⟨_, rfl⟩
          rw [hx] at c1 hm
          have hmm := low8 x
          obtain ⟨y, hy⟩ : ∃ y, x % 256 = y := ⟨_, rfl⟩
          rw [hy] at hmm hm
          subst hm
          have t1 : decide ((j : Int) < 0) = false := decide_eq_false (by omega)
          have t2 : decide ((k : Int) ≤ (j : Int)) = false := decide_eq_false (by omega)
          have t3 : decide ((j : Int) < (k : Int)) = true := decide_eq_true (by omega)
          obtain ⟨hg1, hg2⟩ := klt_facts hgt
          have t4 : decide (y < last) = false := decide_eq_false hg1
          have hS2 : SGetRel w B xs g (.int .i64 y) (.int .i64 ((j : Int) + 1)) (.int .i64 ((i : Int) + 1)) w4 :=
            ⟨i + 1, y, (j : Int) + 1, y, S', by rw [← HNL.out]; omega, by go_num, rfl, rfl, by rw [← HNL.out]; have := HL.out; omega, hu2, hin2, fun s hs => by have := hgt2 s hs; unfold AgI.kLt at *; exact this, hs, HB4.out⟩
          have HS2 := Lib.hid hS2
          have ew : wrap64 (j : Int) = (j : Int) := by unfold wrap64; omega
          by_cases he : y = last
          · have t5 : (y == last) = true := by rw [beq_iff_eq]; exact he
            have t6 : decide ((j : Int) + 1 ≤ turn) = false := decide_eq_false (hg2 he)
            clear hg1 hg2 hgt hf hx' hp hs hb hk2 hu2 hgt2 hin2 hl2 hc hx hy hS2 he hj hlt
            go_wp2_with fail
            go_roundw
            case rel => exact HS2.out
            case measure => simp [intOf]; omega
          · have t5 : (y == last) = false := by rw [beq_eq_false_iff_ne]; exact he
            clear hg1 hg2 hgt hf hx' hp hs hb hk2 hu2 hgt2 hin2 hl2 hc hx hy hS2 he hj hlt
            go_wp2_with fail
            go_roundw
            case rel => exact HS2.out
            case measure => simp [intOf]; omega
        · obtain rfl : i = k := by omega
          have hd2 : decide ((i : Int) < (i : Int)) = false := decide_eq_false (by omega)
          have hS0 : S = [] := List.eq_nil_of_length_eq_zero (by omega)
          subst hS0
          have HNX := Lib.hid (AgI.nextNone_st HS.out 1099511627776 (fun m hm => by have := hm.1; simp at this))
          have HSS := HS
          go_wp2_with (first
            | (go_at_call 13; (with_reducible refine HNX.out.mono ?_); rintro e w5 ⟨rfl, hb⟩; have HB5 := Lib.hid (HB.out.trans (hb.mono HB.out.size)); have HLN := Lib.hid (AgI.len_st (HSS.out.below hb)); clear hb)
            | (go_at_call 15; (with_reducible refine HLN.out.mono ?_); rintro e w6 ⟨rfl, hb⟩; have HB6 := Lib.hid (HB5.out.trans (hb.mono HB5.out.size)); clear hb))
          go_ret
          exact ⟨by simp, HB6.out⟩

theorem agendaSorts_holds : Rows.AgendaSortsSaid := agendaSorts_of (fun v xs w h => by
  have h' := h
  obtain ⟨p, c, rfl⟩ := h'.slice
  rcases Nat.lt_or_ge 200 xs.length with h1 | h1
  · exact sorts_many p _ c w h1
  · exact sorts_some p _ c xs w h h1)

end Go.Proofs.Ytffjbngelapmmab
