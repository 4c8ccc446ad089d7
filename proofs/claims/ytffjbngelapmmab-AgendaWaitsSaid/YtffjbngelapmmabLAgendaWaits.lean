/- For every two slices of ints AgendaWaits answers true: time that is waited for never passes what is to come, nor goes back. No condition. -/
import Derived.Test.YtffjbngelapmmabFAgendaWaits
import Derived.Test.YtffjbngelapmmabAgStM
namespace Go.Proofs.Ytffjbngelapmmab
open Go.RowKit Go.Joins

theorem waits_many (p q : Option Addr) (n c m d : Nat) (w : World) (h : 60 < n ∨ 60 < m) :
    Calls Try.prog 7 #[.slice p n c, .slice q m d] w fun e w' => e = .returned (.bool true) ∧ Below w.heap.size w w' := by
  have HH := Lib.hid head_ret
  by_cases h1 : 60 < n
  · have d1 : decide ((60 : Int) < (n : Int)) = true := decide_eq_true (by omega)
    clear h
    go_enter Try.func7, Try.ntmps7
    go_wp2_with (go_at_call 8; (with_reducible refine (HH.out _).mono ?_); rintro e w1 ⟨rfl, hb⟩; have HB := Lib.hid hb; clear hb)
    go_ret
    exact ⟨rfl, HB.out⟩
  · have d1 : decide ((60 : Int) < (n : Int)) = false := decide_eq_false (by omega)
    have d2 : decide ((60 : Int) < (m : Int)) = true := decide_eq_true (by omega)
    clear h
    go_enter Try.func7, Try.ntmps7
    go_wp2_with (go_at_call 8; (with_reducible refine (HH.out _).mono ?_); rintro e w1 ⟨rfl, hb⟩; have HB := Lib.hid hb; clear hb)
    go_ret
    exact ⟨rfl, HB.out⟩
/-- The least of the first times. -/
def Least (xs : List Int) (k : Nat) (f : Int) : Prop := f ≤ 1099511627776 ∧ 0 ≤ f ∧ ((k = 0 ∧ f = 1099511627776) ∨ ∃ s ∈ putS 65536 xs k, s.1 = f)
def WPutRel (w : World) (B : Nat) (xs : List Int) (g : Nat) (fv kv : Value) (wr : World) : Prop := ∃ (k : Nat) (f : Int), k ≤ xs.length ∧ fv = .int .i64 f ∧ kv = .int .i64 (k : Int) ∧ Least xs k f ∧ AgI.St B wr g 0 (k : Int) (putS 65536 xs k) ∧ Below w.heap.size w wr
theorem least_succ {xs : List Int} {k : Nat} {f y : Int} (h : Least xs k f) (hy : xs.getD k 0 % 65536 = y) : Least xs (k + 1) (min f y) := by
  obtain ⟨h1, h2, h3⟩ := h
  refine ⟨by omega, by omega, .inr ?_⟩
  rw [putS_succ, hy]
  rcases Int.lt_or_le y f with g | g
  · exact ⟨_, List.mem_append_right _ (List.mem_singleton_self _), by show y = _; omega⟩
  · rcases h3 with ⟨rfl, rfl⟩ | ⟨s, hs, e⟩
    · omega
    · exact ⟨s, List.mem_append_left _ hs, by omega⟩
theorem min_ite {xs : List Int} {k : Nat} {f y : Int} (h : Least xs k (min f y)) : Least xs k (if y < f then y else f) := by
  have e : (if y < f then y else f) = min f y := by split <;> omega
  rw [e]; exact h
def WWaitRel (w : World) (B : Nat) (xs ys : List Int) (g : Nat) (f : Int) (nv kv : Value) (wr : World) : Prop :=
  ∃ (k : Nat) (now : Int), k ≤ ys.length ∧ nv = .int .i64 now ∧ kv = .int .i64 (k : Int) ∧ now ≤ f ∧ 0 ≤ now ∧ AgI.St B wr g now (xs.length : Int) (putS 65536 xs xs.length) ∧ Below w.heap.size w wr
/-- What is waited for. -/
theorem wait_bd {xs : List Int} {f now x y : Int} (hL : Least xs xs.length f) (hn : now ≤ f) (h : (putS 65536 xs xs.length = [] ∧ y = max now (min x 1099511627776)) ∨ ∃ m, AgI.First (putS 65536 xs xs.length) m ∧ y = max now (min (min x 1099511627776) m.1)) : now ≤ y ∧ y ≤ f ∧ y ≤ max now x := by
  obtain ⟨h1, h2, h3⟩ := hL
  rcases h with ⟨he, rfl⟩ | ⟨m, hm, rfl⟩
  · have hl := putS_len 65536 xs xs.length
    rw [he] at hl
    rcases h3 with ⟨_, rfl⟩ | ⟨s, hs, _⟩
    · omega
    · rw [he] at hs; simp at hs
  · rcases h3 with ⟨h0, rfl⟩ | ⟨s, hs, e⟩
    · omega
    · have := hm.2 s hs
      unfold AgI.kLt at this
      omega

set_option maxRecDepth 20000 in
set_option maxHeartbeats 4000000 in
theorem waits_some (p q : Option Addr) (n c m d : Nat) (xs ys : List Int) (w : World) (h : LArg w (.slice p n c) xs) (h' : LArg w (.slice q m d) ys) (hn : n ≤ 60) (hm : m ≤ 60) :
    Calls Try.prog 7 #[.slice p n c, .slice q m d] w fun e w' => e = .returned (.bool true) ∧ Below w.heap.size w w' := by
  have HH := Lib.hid head_ret
  have HN := Lib.hid AgI.new_st
  have d1 : decide ((60 : Int) < (n : Int)) = false := decide_eq_false (by omega)
  have d2 : decide ((60 : Int) < (m : Int)) = false := decide_eq_false (by omega)
  have HNL := Lib.hid (larg_len h)
  have HML := Lib.hid (larg_len h')
  have HA := Lib.hid h
  have HA2 := Lib.hid h'
  clear h h'
  go_enter Try.func7, Try.ntmps7
  go_wp2_with (first
    | (go_at_call 8; (with_reducible refine (HH.out _).mono ?_); rintro e w1 ⟨rfl, hb⟩; have HB := Lib.hid hb; clear hb)
    | (go_at_call 9; (with_reducible refine (HN.out _).mono ?_); rintro e w2 ⟨g, rfl, hs, hb⟩; have HS := Lib.hid hs; have HBW : Hid (w.heap.size ≤ w1.heap.size) := Lib.hid HB.out.size; replace HB := Lib.hid (AgI.bTr HB.out hb); clear hs hb))
  obtain ⟨B, hB⟩ : ∃ B, w1.heap.size = B := ⟨_, rfl⟩
  rw [hB] at HS HBW
  clear hB
  go_loopw [6, 28] (fun fv kv wr => WPutRel w B xs g fv kv wr) (fun _ kv _ => n - (intOf kv).toNat)
  case atStart => exact ⟨0, 1099511627776, by omega, rfl, rfl, ⟨by omega, by omega, .inl ⟨rfl, rfl⟩⟩, HS.out, HB.out⟩
  case round =>
    clear HS HB
    obtain ⟨k, f, hk, rfl, rfl, hL, hs, hb⟩ := hrel
    rw [← HNL.out] at hk
    have HS := Lib.hid hs
    have HB := Lib.hid hb
    have HL := Lib.hid hL
    clear hs hb hL
    rcases Nat.lt_or_ge k n with g1 | g1
    · have hd : decide ((k : Int) < (n : Int)) = true := decide_eq_true (by omega)
      obtain ⟨b, o, rfl, hnx, hc⟩ := larg_at HA.out (k := k) (by rw [← HNL.out]; exact g1)
      clear hnx
      have hlt := World.block_lt_of_cell? _ _ (hc k (by rw [← HNL.out]; exact g1))
      have c1 := (HB.out.cell hlt).trans (hc k (by rw [← HNL.out]; exact g1))
      clear hc hlt
      obtain ⟨x, hx⟩ : ∃ x, xs.getD k 0 = x := ⟨_, rfl⟩
      rw [hx] at c1
      have hm' := low16' x
      obtain ⟨y, hy⟩ : ∃ y, x % 65536 = y := ⟨_, rfl⟩
      rw [hy] at hm'
      have HP := Lib.hid (AgI.put_st HS.out y (k : Int) (by omega) (by omega) (by rw [putS_len]; omega) (by omega) (by omega))
      have HXY : Hid (putS 65536 xs (k + 1) = putS 65536 xs k ++ [(y, (k : Int) + 1, (k : Int))]) := Lib.hid (by rw [putS_succ, hx, hy])
      have HL2 := Lib.hid (least_succ HL.out (show xs.getD k 0 % 65536 = y by rw [hx, hy]))
      clear hx hy
      go_wp2_with (go_at_call 10; (with_reducible refine HP.out.mono ?_); rintro e w3 ⟨rfl, hs, hb, hk2⟩; have HS2 := Lib.hid hs; have HB2 := Lib.hid hb; clear hs hb hk2)
      go_roundw
      case rel => exact ⟨k + 1, _, by rw [← HNL.out]; omega, rfl, by go_num, (min_ite HL2.out), by rw [HXY.out]; exact HS2.out, HB.out.trans (HB2.out.mono HBW.out)⟩
      case measure => simp [intOf]; omega
    · obtain rfl : k = n := by omega
      have hd : decide ((k : Int) < (k : Int)) = false := decide_eq_false (by omega)
      have HLF : Hid (Least xs xs.length f) := Lib.hid (by rw [← HNL.out]; exact HL.out)
      have HSF : Hid (AgI.St B wr g 0 (xs.length : Int) (putS 65536 xs xs.length)) := Lib.hid (by rw [← HNL.out]; exact HS.out)
      go_wp2_with fail
      go_loopw [11, 50] (fun nv kv wx => WWaitRel w B xs ys g f nv kv wx) (fun _ kv _ => m - (intOf kv).toNat)
      case atStart => exact ⟨0, 0, by omega, rfl, rfl, HL.out.2.1, by omega, HSF.out, HB.out⟩
      case round =>
        clear HS HB HSF HL
        obtain ⟨i, now, hi, rfl, rfl, hnf, hn0, hs, hb⟩ := hrel
        rw [← HML.out] at hi
        have HS := Lib.hid hs
        have HB := Lib.hid hb
        clear hs hb
        rcases Nat.lt_or_ge i m with g2 | g2
        · have hd2 : decide ((i : Int) < (m : Int)) = true := decide_eq_true (by omega)
          obtain ⟨b, o, rfl, hnx, hc⟩ := larg_at HA2.out (k := i) (by rw [← HML.out]; exact g2)
          clear hnx
          have hlt := World.block_lt_of_cell? _ _ (hc i (by rw [← HML.out]; exact g2))
          have c1 := (HB.out.cell hlt).trans (hc i (by rw [← HML.out]; exact g2))
          clear hc hlt
          obtain ⟨x, hx⟩ : ∃ x, ys.getD i 0 = x := ⟨_, rfl⟩
          rw [hx] at c1
          clear hx
          have HW := Lib.hid (AgI.wait_st HS.out x)
          go_wp2_with fail
          refine HW.out.mono ?_
          rintro e w4 ⟨y, rfl, hs, hb, hk2, hy⟩
          obtain ⟨y1, y2, y3⟩ := wait_bd HLF.out hnf hy
          have t1 : decide (y < now) = false := decide_eq_false (by omega)
          have t2 : decide (f < y) = false := decide_eq_false (by omega)
          have HNW := Lib.hid (AgI.now_st hs)
          have HS4 := Lib.hid hs
          have HB4 := Lib.hid (HB.out.trans (hb.mono HBW.out))
          have h3 : (now < x ∧ ¬ x < now ∧ ¬ x ≤ now ∧ now ≤ x ∧ ¬ x < y) ∨ (x = now ∧ y = now) ∨ (x < now ∧ ¬ now < x ∧ ¬ now ≤ x ∧ x ≤ now ∧ ¬ now < y) := by omega
          have Y1 := Lib.hid (show 0 ≤ y by omega)
          have Y2 := Lib.hid y2
          clear hs hb hk2 hy y1 y2 y3 hnf hn0
          rcases h3 with ⟨a1, a2, a3, a4, a5⟩ | ⟨rfl, rfl⟩ | ⟨a1, a2, a3, a4, a5⟩
          · have t3 : decide (x < y) = false := decide_eq_false a5
            go_wp2_with (go_at_call 14; (with_reducible refine HNW.out.mono ?_); rintro e w5 ⟨rfl, hb⟩; have HS5 := Lib.hid (HS4.out.below hb); have HB5 := Lib.hid (HB4.out.trans (hb.mono HB4.out.size)); clear hb)
            go_roundw
            case rel => exact ⟨i + 1, _, by rw [← HML.out]; omega, rfl, by go_num, Y2.out, Y1.out, HS5.out, HB5.out⟩
            case measure => simp [intOf]; omega
          · go_wp2_with (go_at_call 14; (with_reducible refine HNW.out.mono ?_); rintro e w5 ⟨rfl, hb⟩; have HS5 := Lib.hid (HS4.out.below hb); have HB5 := Lib.hid (HB4.out.trans (hb.mono HB4.out.size)); clear hb)
            go_roundw
            case rel => exact ⟨i + 1, _, by rw [← HML.out]; omega, rfl, by go_num, Y2.out, Y1.out, HS5.out, HB5.out⟩
            case measure => simp [intOf]; omega
          · have t3 : decide (now < y) = false := decide_eq_false a5
            go_wp2_with (go_at_call 14; (with_reducible refine HNW.out.mono ?_); rintro e w5 ⟨rfl, hb⟩; have HS5 := Lib.hid (HS4.out.below hb); have HB5 := Lib.hid (HB4.out.trans (hb.mono HB4.out.size)); clear hb)
            go_roundw
            case rel => exact ⟨i + 1, _, by rw [← HML.out]; omega, rfl, by go_num, Y2.out, Y1.out, HS5.out, HB5.out⟩
            case measure => simp [intOf]; omega
        · obtain rfl : i = m := by omega
          have hd2 : decide ((i : Int) < (i : Int)) = false := decide_eq_false (by omega)
          have HLN := Lib.hid (AgI.len_st HS.out)
          rw [putS_len, ← HNL.out] at HLN
          go_wp2_with (go_at_call 15; (with_reducible refine HLN.out.mono ?_); rintro e w6 ⟨rfl, hb⟩; have HB6 := Lib.hid (HB.out.trans (hb.mono HB.out.size)); clear hb)
          go_ret
          exact ⟨by simp, HB6.out⟩

theorem agendaWaits_holds : Rows.AgendaWaitsSaid := agendaWaits_of (fun v xs v' ys w h h' => by
  have k := h
  have k' := h'
  obtain ⟨p, c, rfl⟩ := k.slice
  obtain ⟨q, d, rfl⟩ := k'.slice
  by_cases h1 : 60 < xs.length ∨ 60 < ys.length
  · exact waits_many p q _ c _ d w h1
  · exact waits_some p q _ c _ d xs ys w h h' (by omega) (by omega))

end Go.Proofs.Ytffjbngelapmmab
