/- The reference's Middle. -/
import Derived.Test.YtglmkjnhkjljpaaMiddle
namespace Go.Proofs.Ytglmkjnhkjljpaa
open Go.RowKit Go.Joins

theorem rmiddle_none (p : Option Addr) (c : Nat) (w : World) :
    Calls Try.prog 23 #[.slice p 0 c] w fun e w' => e = .returned (.tuple #[.int .i64 0, .int .i64 5]) ∧ Below w.heap.size w w' := by
  go_enter Try.func23, Try.ntmps23
  go_wp2_with fail
  go_ret2
  exact ⟨rfl, bRef w⟩

def CountRel (xs : List Int) (x : Int) (bv ev jv : Value) : Prop :=
  ∃ j : Nat, j ≤ xs.length ∧ jv = .int .i64 (j : Int) ∧ bv = .int .i64 ((Med.lo (xs.take j) x : Nat) : Int) ∧ ev = .int .i64 ((Med.eqs (xs.take j) x : Nat) : Int)
theorem count_go {xs : List Int} {x y : Int} {j l e : Nat} {li ei ji : Int} (hj : j < xs.length) (hy : y = xs.getD j 0) (hl : l = Med.lo (xs.take j) x) (he : e = Med.eqs (xs.take j) x)
    (hli : li = (l : Int) + (if y < x then 1 else 0)) (hei : ei = (e : Int) + (if y = x then 1 else 0)) (hji : ji = (j : Int) + 1) : CountRel xs x (.int .i64 li) (.int .i64 ei) (.int .i64 ji) := by
  subst hy hl he hli hei hji
  refine ⟨j + 1, by omega, by go_num, ?_, ?_⟩
  · rw [Med.lo_take hj]; split <;> simp
  · rw [Med.eqs_take hj]; split <;> simp

def ScanRel (xs : List Int) (m : Nat) (iv : Value) : Prop := ∃ k : Nat, k ≤ m + 1 ∧ iv = .int .i64 (k : Int) ∧ ∀ j, j < k → xs.getD j 0 ≠ Med.med xs
theorem scan_go {xs : List Int} {m k : Nat} {x : Int} {ki : Int} (hk : k < m + 1) (hno : ∀ j, j < k → xs.getD j 0 ≠ Med.med xs) (hx : x = xs.getD k 0) (h : x ≠ Med.med xs) (hki : ki = (k : Int) + 1) : ScanRel xs m (.int .i64 ki) := by
  subst hki
  refine ⟨k + 1, by omega, by go_num, fun j hj => ?_⟩
  rcases Nat.lt_or_ge j k with g3 | g3
  · exact hno j g3
  · obtain rfl : j = k := by omega
    rw [← hx]; exact h

set_option maxHeartbeats 2000000 in
theorem rmiddle_some (b o m c : Nat) (xs : List Int) (w : World) (hi : ∀ x ∈ xs, In64 x) (hn : xs.length = m + 1) (hl : m + 1 ≤ 1000000) (hr : RdL w b o xs) :
    Calls Try.prog 23 #[.slice (some ⟨b, o, none⟩) (m + 1) c] w fun e w' => e = .returned (.tuple #[.int .i64 (Med.med xs), .int .i64 0]) ∧ Below w.heap.size w w' := by
  have h0 : 0 < xs.length := by omega
  have hmid : Med.mid xs = m / 2 := by unfold Med.mid; rw [hn]; rfl
  have HN := Lib.hid hn
  have HI := Lib.hid hi
  have HR := Lib.hid (hr h0).2
  have H0 := Lib.hid h0
  have HM := Lib.hid hmid
  clear hn hi hr h0 hmid
  go_enter Try.func23, Try.ntmps23
  go_wp2_with fail
  go_loop [16] (fun iv => ScanRel xs m iv) (fun iv => m + 1 - (intOf iv).toNat)
  case atStart => exact ⟨0, by omega, rfl, fun j hj => by omega⟩
  case round =>
    obtain ⟨k, hk, rfl, hno⟩ := hrel
    have HNO := Lib.hid hno
    clear hno
    rcases Nat.lt_or_ge k (m + 1) with g | g
    · have hd : decide ((k : Int) < (m : Int) + 1) = true := decide_eq_true (by omega)
      have hcell := HR.out k (by rw [HN.out]; exact g)
      obtain ⟨x, hx⟩ : ∃ x, x = xs.getD k 0 := ⟨_, rfl⟩
      rw [← hx] at hcell
      have HX := Lib.hid hx
      clear hx
      go_wp2_with fail
      go_loop [6, 7, 22] (fun bv ev jv => CountRel xs x bv ev jv) (fun _ _ jv => m + 1 - (intOf jv).toNat)
      case atStart => exact ⟨0, by omega, rfl, rfl, rfl⟩
      case round =>
        obtain ⟨j, hj, rfl, rfl, rfl⟩ := hrel
        rw [HN.out] at hj
        have hl1 := Med.lo_len (xs.take j) x
        have hl2 := Med.eqs_len (xs.take j) x
        have hl3 : (xs.take j).length ≤ m + 1 := by rw [List.length_take, HN.out]; omega
        rcases Nat.lt_or_ge j (m + 1) with g2 | g2
        · have hd2 : decide ((j : Int) < (m : Int) + 1) = true := decide_eq_true (by omega)
          have hcell2 := HR.out j (by rw [HN.out]; exact g2)
          obtain ⟨y, hy⟩ : ∃ y, y = xs.getD j 0 := ⟨_, rfl⟩
          rw [← hy] at hcell2
          have HY := Lib.hid hy
          obtain ⟨l, hle⟩ : ∃ l, l = Med.lo (xs.take j) x := ⟨_, rfl⟩
          obtain ⟨q, hqe⟩ : ∃ q, q = Med.eqs (xs.take j) x := ⟨_, rfl⟩
          rw [← hle] at hl1 ⊢
          rw [← hqe] at hl2 ⊢
          have HLE := Lib.hid hle
          have HQE := Lib.hid hqe
          clear hy hle hqe
          rcases Int.lt_trichotomy y x with t | t | t
          · have t1 : decide (y < x) = true := decide_eq_true t
            have t2 : (y == x) = false := by rw [beq_eq_false_iff_ne]; omega
            have TT := Lib.hid t
            clear t
            go_wp2_with fail
            go_round
            case rel => exact count_go (by rw [HN.out]; exact g2) HY.out HLE.out HQE.out (by rw [if_pos TT.out]) (by rw [if_neg (by have := TT.out; omega)]; simp) rfl
            case measure => simp [intOf]; omega
          · have t1 : decide (y < x) = false := decide_eq_false (by omega)
            have t2 : (y == x) = true := by rw [beq_iff_eq]; exact t
            have TT := Lib.hid t
            clear t
            go_wp2_with fail
            go_round
            case rel => exact count_go (by rw [HN.out]; exact g2) HY.out HLE.out HQE.out (by rw [if_neg (by have := TT.out; omega)]; simp) (by rw [if_pos TT.out]) rfl
            case measure => simp [intOf]; omega
          · have t1 : decide (y < x) = false := decide_eq_false (by omega)
            have t2 : (y == x) = false := by rw [beq_eq_false_iff_ne]; omega
            have TT := Lib.hid t
            clear t
            go_wp2_with fail
            go_round
            case rel => exact count_go (by rw [HN.out]; exact g2) HY.out HLE.out HQE.out (by rw [if_neg (by have := TT.out; omega)]; simp) (by rw [if_neg (by have := TT.out; omega)]; simp) rfl
            case measure => simp [intOf]; omega
        · obtain rfl : j = m + 1 := by omega
          have htake : xs.take (m + 1) = xs := by rw [← HN.out, List.take_length]
          rw [htake] at hl1 hl2 hl3 ⊢
          clear htake
          obtain ⟨l, hle⟩ : ∃ l, l = Med.lo xs x := ⟨_, rfl⟩
          obtain ⟨q, hqe⟩ : ∃ q, q = Med.eqs xs x := ⟨_, rfl⟩
          rw [← hle] at hl1 ⊢
          rw [← hqe] at hl2 ⊢
          have HLE := Lib.hid hle
          have HQE := Lib.hid hqe
          clear hle hqe
          by_cases hit : l ≤ m / 2 ∧ m / 2 < l + q
          · obtain ⟨i1, i2⟩ := hit
            have d1 : decide ((l : Int) ≤ (m : Int) / 2) = true := decide_eq_true (by omega)
            have d2 : decide ((m : Int) / 2 < (l : Int) + (q : Int)) = true := decide_eq_true (by omega)
            have hmed : x = Med.med xs := Med.med_only H0.out (by rw [← HLE.out, HM.out]; exact i1) (by rw [← HLE.out, ← HQE.out, HM.out]; exact i2)
            have HMED := Lib.hid hmed
            clear hmed i1 i2
            go_wp2_with fail
            go_ret2
            exact ⟨by rw [← HMED.out]; rfl, bRef w⟩
          · have HIT : Hid (x ≠ Med.med xs) := Lib.hid (fun e => hit (by
              have := Med.med_hit H0.out
              rw [← e, ← HLE.out, ← HQE.out, HM.out] at this
              exact this))
            rcases Nat.lt_or_ge (m / 2) l with i1 | i1
            · have d1 : decide ((l : Int) ≤ (m : Int) / 2) = false := decide_eq_false (by omega)
              clear hit
              go_wp2_with fail
              go_round
              case rel => exact ⟨_, _, _, _, _, _, _, _, scan_go g HNO.out HX.out HIT.out rfl, rfl, rfl, rfl, rfl, rfl, rfl, rfl, rfl⟩
              case measure => simp [intOf]; omega
            · have d1 : decide ((l : Int) ≤ (m : Int) / 2) = true := decide_eq_true (by omega)
              have d2 : decide ((m : Int) / 2 < (l : Int) + (q : Int)) = false := decide_eq_false (by omega)
              clear hit
              go_wp2_with fail
              go_round
              case rel => exact ⟨_, _, _, _, _, _, _, _, scan_go g HNO.out HX.out HIT.out rfl, rfl, rfl, rfl, rfl, rfl, rfl, rfl, rfl⟩
              case measure => simp [intOf]; omega
    · exfalso
      have hmem := Med.med_mem H0.out
      obtain ⟨j, hj, hje⟩ := List.mem_iff_getElem.1 hmem
      refine HNO.out j (by rw [HN.out] at hj; omega) ?_
      rw [List.getD_eq_getElem?_getD, List.getElem?_eq_getElem hj]
      exact hje

theorem rmiddle_any {v : Value} {xs : List Int} {w : World} (h : LArg w v xs) (hl : xs.length ≤ 1000000) (x y : Int) (hx : (if xs = [] then 0 else Med.med xs) = x) (hy : (if xs = [] then 5 else 0) = y) :
    Calls Try.prog 23 #[v] w fun e w' => e = .returned (.tuple #[.int .i64 x, .int .i64 y]) ∧ Below w.heap.size w w' := by
  subst hx hy
  have h' := h
  rcases h'.2 with ⟨rfl, p, c, rfl, _⟩ | ⟨h0, b, o, c, rfl, hc, hr⟩
  · exact rmiddle_none p c w
  · have hne : ¬ xs = [] := fun e => by rw [e] at h0; simp at h0
    rw [if_neg hne, if_neg hne]
    have e1 : xs.length - 1 + 1 = xs.length := by omega
    have := rmiddle_some b o (xs.length - 1) c xs w h.1 e1.symm (by omega) hr
    rw [e1] at this
    exact this

end Go.Proofs.Ytglmkjnhkjljpaa
