/- sort.Search, over whatever closure; the leg in which a time lies. -/
import Derived.Test.YtffjbngelapmmaaOsC
namespace Go.Proofs.Ytffjbngelapmmaa
open Go.RowKit Go.Joins

def SeaRel (w : World) (n : Nat) (p : Nat → Bool) (iv jv : Value) (wr : World) : Prop :=
  ∃ lo hi : Nat, iv = .int .i64 (lo : Int) ∧ jv = .int .i64 (hi : Int) ∧ lo ≤ hi ∧ hi ≤ n ∧ (∀ t, t < lo → p t = false) ∧ (∀ t, hi ≤ t → t < n → p t = true) ∧ Below w.heap.size w wr
theorem sea_lo {w wr : World} {n lo hi : Nat} {p : Nat → Bool} {x : Int} (h1 : lo < hi) (h2 : hi ≤ n) (hm : ∀ a b, a ≤ b → b < n → p a = true → p b = true) (hp : p ((lo + hi) / 2) = false) (h4 : ∀ t, hi ≤ t → t < n → p t = true) (hb : Below w.heap.size w wr) (hx : x = ((lo : Int) + (hi : Int)) / 2 + 1) :
    SeaRel w n p (.int .i64 x) (.int .i64 (hi : Int)) wr := by
  refine ⟨(lo + hi) / 2 + 1, hi, ?_, rfl, by omega, h2, fun t ht => ?_, h4, hb⟩
  · rw [hx]; congr 1
  · cases h : p t with
    | false => rfl
    | true => have := hm t ((lo + hi) / 2) (by omega) (by omega) h; rw [hp] at this; cases this
theorem sea_hi {w wr : World} {n lo hi : Nat} {p : Nat → Bool} {x : Int} (h1 : lo < hi) (h2 : hi ≤ n) (hm : ∀ a b, a ≤ b → b < n → p a = true → p b = true) (hp : p ((lo + hi) / 2) = true) (h4 : ∀ t, t < lo → p t = false) (hb : Below w.heap.size w wr) (hx : x = ((lo : Int) + (hi : Int)) / 2) :
    SeaRel w n p (.int .i64 (lo : Int)) (.int .i64 x) wr := by
  refine ⟨lo, (lo + hi) / 2, rfl, ?_, by omega, by omega, h4, fun t ht hn => hm _ t ht hn hp, hb⟩
  rw [hx]; congr 1

set_option maxHeartbeats 1000000 in
theorem search_any (n f : Nat) (cb : Array Value) (p : Nat → Bool) (w : World) (hn : n < 4611686018427387904) (ef : ∀ args w, (callFunc f args).run Try.prog w = .ok (.enter f args) w)
    (hf : Hid (∀ W, Below w.heap.size w W → ∀ i, i < n → Calls Try.prog f (#[.int .i64 (i : Int)] ++ cb) W fun e W' => e = .returned (.bool (p i)) ∧ Below W.heap.size W W'))
    (hm : Hid (∀ a b, a ≤ b → b < n → p a = true → p b = true)) :
    Calls Try.prog 25 #[.int .i64 (n : Int), .func (.func f) #[] cb] w fun e w' => ∃ r : Nat, e = .returned (.int .i64 (r : Int)) ∧ r ≤ n ∧ (∀ t, t < r → p t = false) ∧ (∀ t, r ≤ t → t < n → p t = true) ∧ Below w.heap.size w w' := by
  go_enter Try.func25, Try.ntmps25
  go_wp2_with fail
  go_loopw [5, 6] (fun iv jv wr => SeaRel w n p iv jv wr) (fun iv jv _ => (intOf jv).toNat - (intOf iv).toNat)
  case atStart => exact ⟨0, n, rfl, rfl, by omega, by omega, fun t ht => absurd ht (Nat.not_lt_zero _), fun t h1 h2 => by omega, bRef w⟩
  case round =>
    obtain ⟨lo, hi, rfl, rfl, hlh, hin, hl, hr, hb⟩ := hrel
    have HL := Lib.hid hl
    have HR := Lib.hid hr
    have HB := Lib.hid hb
    clear hl hr hb
    by_cases hlt : lo < hi
    · have hc := hf.out wr HB.out ((lo + hi) / 2) (by omega)
      rw [show (((lo + hi) / 2 : Nat) : Int) = ((lo : Int) + (hi : Int)) / 2 by omega] at hc
      cases hp : p ((lo + hi) / 2) <;> rw [hp] at hc
      · have HP := Lib.hid hp
        have HC := Lib.hid hc
        clear hp hc
        go_wp2_with fail
        refine HC.out.mono ?_
        rintro e w' ⟨rfl, hb⟩
        have HB' := Lib.hid hb
        clear hb
        go_wp2_with fail
        go_roundw
        case rel => exact sea_lo hlt hin hm.out HP.out HR.out (bTr HB.out HB'.out) rfl
        case measure => simp [intOf]; omega
      · have HP := Lib.hid hp
        have HC := Lib.hid hc
        clear hp hc
        go_wp2_with fail
        refine HC.out.mono ?_
        rintro e w' ⟨rfl, hb⟩
        have HB' := Lib.hid hb
        clear hb
        go_wp2_with fail
        go_roundw
        case rel => exact sea_hi hlt hin hm.out HP.out HL.out (bTr HB.out HB'.out) rfl
        case measure => simp [intOf]; omega
    · obtain rfl : hi = lo := by omega
      go_wp2_with fail
      go_ret
      exact ⟨hi, rfl, hin, HL.out, HR.out, HB.out⟩

end Go.Proofs.Ytffjbngelapmmaa
