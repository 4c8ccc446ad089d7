/- Package ptp: isKind, within. -/
import Derived.Test.YtcdcklkbjfhhnaaPtOwn
namespace Go.Proofs.Ytcdcklkbjfhhnaa
open Go.RowKit Go.Joins

def kindB (k : Int) : Bool := decide (k = 0 ∨ k = 2 ∨ k = 3 ∨ k = 8 ∨ k = 10 ∨ k = 11)
theorem kind_ret (k : Int) (x : Bool) (hx : kindB k = x) : RetQ 22 #[.int .i64 k] (.bool x) := fun w => by
  subst hx
  unfold kindB
  by_cases h : k = 0 ∨ k = 2 ∨ k = 3 ∨ k = 8 ∨ k = 10 ∨ k = 11
  · rw [decide_eq_true h]
    rcases h with rfl | rfl | rfl | rfl | rfl | rfl
    all_goals
      go_enter Try.func22, Try.ntmps22
      go_wp2_with fail
      go_ret
      exact ⟨rfl, rfl⟩
  · rw [decide_eq_false h]
    have h0 : (k == 0) = false := by simp; omega
    have h2 : (k == 2) = false := by simp; omega
    have h3 : (k == 3) = false := by simp; omega
    have h8 : (k == 8) = false := by simp; omega
    have h10 : (k == 10) = false := by simp; omega
    have h11 : (k == 11) = false := by simp; omega
    clear h
    go_enter Try.func22, Try.ntmps22
    go_wp2_with fail
    go_ret
    exact ⟨rfl, rfl⟩

def winB (most : Int) (xs : List Int) : Bool := xs.all fun x => decide (0 ≤ x ∧ x ≤ most)
theorem winB_iff {most : Int} {xs : List Int} : winB most xs = true ↔ ∀ x ∈ xs, 0 ≤ x ∧ x ≤ most := by
  unfold winB; simp [List.all_eq_true]
theorem within_none (most : Int) (a : Option Addr) (c : Nat) (w : World) :
    Calls Try.prog 23 #[.int .i64 most, .slice a 0 c] w fun e w' => e = .returned (.bool true) ∧ w = w' := by
  go_enter Try.func23, Try.ntmps23
  go_wp2_with fail
  go_loop [9] (fun i => i = .int .i64 0) (fun _ => 0)
  case atStart => exact rfl
  case round =>
    obtain rfl := hrel
    go_wp2_with fail
    go_ret
    exact ⟨rfl, rfl⟩
def WinRel (most : Int) (xs : List Int) (iv : Value) : Prop := ∃ k : Nat, k ≤ xs.length ∧ iv = .int .i64 (k : Int) ∧ ∀ j, j < k → 0 ≤ xs.getD j 0 ∧ xs.getD j 0 ≤ most
theorem win_all {most : Int} {xs : List Int} (h : ∀ j, j < xs.length → 0 ≤ xs.getD j 0 ∧ xs.getD j 0 ≤ most) : winB most xs = true := by
  rw [winB_iff]
  intro x hx
  obtain ⟨j, hj, rfl⟩ := List.mem_iff_getElem.1 hx
  have := h j hj
  rwa [List.getD_eq_getElem?_getD, List.getElem?_eq_getElem hj] at this
theorem win_not {most : Int} {xs : List Int} {k : Nat} (hk : k < xs.length) (h : ¬ (0 ≤ xs.getD k 0 ∧ xs.getD k 0 ≤ most)) : winB most xs = false := by
  rw [Bool.eq_false_iff]
  intro e
  apply h
  rw [winB_iff] at e
  have := e _ (List.getElem_mem hk)
  rwa [List.getD_eq_getElem?_getD, List.getElem?_eq_getElem hk]
theorem within_some (most : Int) (b o c : Nat) (xs : List Int) (w : World) (hx : ∀ x ∈ xs, In64 x) (hl : xs.length ≤ 140737488355328) (hr : RdL w b o xs) (x : Bool) (hw : winB most xs = x) :
    Calls Try.prog 23 #[.int .i64 most, .slice (some ⟨b, o, none⟩) xs.length c] w fun e w' => e = .returned (.bool x) ∧ w = w' := by
  obtain ⟨n, hn⟩ : ∃ n, n = xs.length := ⟨_, rfl⟩
  rw [← hn] at hl ⊢
  have Hn := Lib.hid hn
  have Hr := Lib.hid hr
  have Hx := Lib.hid hx
  have Hw := Lib.hid hw
  clear hn hr hx hw
  go_enter Try.func23, Try.ntmps23
  go_wp2_with fail
  go_loop [9] (fun iv => WinRel most xs iv) (fun iv => n - (intOf iv).toNat)
  case atStart => exact ⟨0, by omega, rfl, fun j hj => by omega⟩
  case round =>
    obtain ⟨k, hk, rfl, hall⟩ := hrel
    have Hall := Lib.hid hall
    rw [← Hn.out] at hk
    clear hall
    rcases Nat.lt_or_ge k n with g | g
    · have hd : decide ((k : Int) < (n : Int)) = true := decide_eq_true (by omega)
      have hcell := (Hr.out (by rw [← Hn.out]; omega)).2 k (by rw [← Hn.out]; exact g)
      have hb := in_getD Hx.out k
      unfold In64 at hb
      obtain ⟨z, hz⟩ : ∃ z, z = xs.getD k 0 := ⟨_, rfl⟩
      rw [← hz] at hcell hb
      have Hz := Lib.hid hz
      clear hz
      by_cases hin : 0 ≤ z ∧ z ≤ most
      · have g1 : ¬ z < 0 := by omega
        have g2 : ¬ most < z := by omega
        go_wp2_with fail
        go_round
        case rel => exact ⟨k + 1, by rw [← Hn.out]; omega, by go_num, fun j hj => by
          rcases Nat.lt_or_ge j k with h | h
          · exact Hall.out j h
          · obtain rfl : j = k := by omega
            rw [← Hz.out]; exact hin⟩
        case measure => simp [intOf]; omega
      · have hx0 : x = false := by rw [← Hw.out]; exact win_not (by rw [← Hn.out]; exact g) (by rw [← Hz.out]; exact hin)
        subst hx0
        by_cases g1 : z < 0
        · clear hin
          go_wp2_with fail
          go_ret
          exact ⟨rfl, rfl⟩
        · have g2 : most < z := by omega
          clear hin
          go_wp2_with fail
          go_ret
          exact ⟨rfl, rfl⟩
    · obtain rfl : k = n := by omega
      have hx0 : x = true := by rw [← Hw.out]; exact win_all (by rw [← Hn.out]; exact Hall.out)
      subst hx0
      go_wp2_with fail
      go_ret
      exact ⟨rfl, rfl⟩
theorem within_any {most : Int} {v : Value} {xs : List Int} {w : World} (h : LArg w v xs) (hl : xs.length ≤ 140737488355328) (x : Bool) (hx : winB most xs = x) :
    Calls Try.prog 23 #[.int .i64 most, v] w fun e w' => e = .returned (.bool x) ∧ w = w' := by
  obtain ⟨h1, h2⟩ := h
  rcases h2 with ⟨rfl, a, c, rfl, _⟩ | ⟨h0, b, o, c, rfl, hc, hr⟩
  · subst hx; exact within_none most a c w
  · exact within_some most b o c xs w h1 hl hr x hx

end Go.Proofs.Ytcdcklkbjfhhnaa
