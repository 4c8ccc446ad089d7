/- Package fcs: Hit. -/
import Derived.Test.YtglmkjnhkjljpabOpen
namespace Go.Proofs.Ytglmkjnhkjljpab
open Go.RowKit Go.Joins

/-- The last of the first j turns that makes just these bits wrong. -/
def lastHit (off : Nat) : Nat → Option Nat
  | 0 => none
  | j + 1 => if Crc.T j 2147483648 = off then some j else lastHit off j
def hAt (n : Nat) : Option Nat → Int
  | none => 0
  | some j => (n : Int) - 1 - ((j / 8 : Nat) : Int)
def hBit : Option Nat → Int
  | none => 0
  | some j => 7 - ((j % 8 : Nat) : Int)
def hOk : Option Nat → Bool
  | none => false
  | some _ => true
def HitAt (n off j : Nat) (av bv kv tv : Value) : Prop :=
  av = .int .i64 (hAt n (lastHit off j)) ∧ bv = .int .i64 (hBit (lastHit off j)) ∧ kv = .bool (hOk (lastHit off j)) ∧ tv = .int .u32 ((Crc.T j 2147483648 : Nat) : Int)
def HitOut (n off : Nat) (av bv kv tv iv : Value) : Prop := ∃ i : Nat, i ≤ n ∧ iv = .int .i64 (i : Int) ∧ HitAt n off (8 * i) av bv kv tv
def HitIn (n off i : Nat) (av bv kv tv jv : Value) : Prop := ∃ k : Nat, k ≤ 8 ∧ jv = .int .i64 (k : Int) ∧ HitAt n off (8 * i + k) av bv kv tv
theorem hit_yes {n off i k : Nat} {a b ji : Int} {t : Nat} (hk : k < 8) (ht : t = Crc.step (Crc.T (8 * i + k) 2147483648)) (he : Crc.T (8 * i + k) 2147483648 = off) (ha : a = (n : Int) - 1 - (i : Int)) (hb : b = 7 - (k : Int)) (hj : ji = ((k + 1 : Nat) : Int)) :
    HitIn n off i (.int .i64 a) (.int .i64 b) (.bool true) (.int .u32 (t : Int)) (.int .i64 ji) := by
  subst ha hb hj
  have e : lastHit off (8 * i + (k + 1)) = some (8 * i + k) := by
    show (if Crc.T (8 * i + k) 2147483648 = off then some (8 * i + k) else _) = _
    rw [if_pos he]
  refine ⟨k + 1, by omega, rfl, ?_, ?_, ?_, ?_⟩
  · rw [e]; show _ = Value.int .i64 ((n : Int) - 1 - (((8 * i + k) / 8 : Nat) : Int)); rw [show (8 * i + k) / 8 = i by omega]
  · rw [e]; show _ = Value.int .i64 (7 - (((8 * i + k) % 8 : Nat) : Int)); rw [show (8 * i + k) % 8 = k by omega]
  · rw [e]; rfl
  · rw [ht, show 8 * i + (k + 1) = (8 * i + k) + 1 by omega, Crc.T_succ]
theorem hit_no {n off i k : Nat} {av bv kv : Value} {tv : Value} {ji : Int} {t : Nat} (hk : k < 8) (h : HitAt n off (8 * i + k) av bv kv tv) (ht : t = Crc.step (Crc.T (8 * i + k) 2147483648)) (he : ¬ Crc.T (8 * i + k) 2147483648 = off) (hj : ji = ((k + 1 : Nat) : Int)) :
    HitIn n off i av bv kv (.int .u32 (t : Int)) (.int .i64 ji) := by
  subst hj
  have e : lastHit off (8 * i + (k + 1)) = lastHit off (8 * i + k) := by
    show (if Crc.T (8 * i + k) 2147483648 = off then some (8 * i + k) else _) = _
    rw [if_neg he]; rfl
  obtain ⟨h1, h2, h3, _⟩ := h
  exact ⟨k + 1, by omega, rfl, by rw [h1, e], by rw [h2, e], by rw [h3, e], by rw [ht, show 8 * i + (k + 1) = (8 * i + k) + 1 by omega, Crc.T_succ]⟩

theorem hit_short (p : Option Addr) (n c : Nat) (hn : n < 4) (w : World) :
    Calls Try.prog 18 #[.slice p n c] w fun e w' => e = .returned (.tuple #[.int .i64 0, .int .i64 0, .bool false]) ∧ Below w.heap.size w w' := by
  go_enter Try.func18, Try.ntmps18
  go_wp2_with fail
  go_ret3
  exact ⟨rfl, bRef w⟩

set_option maxHeartbeats 2000000 in
theorem hit_long (p : Option Addr) (n c off : Nat) (hn : 4 ≤ n) (hl : n ≤ 140737488355000) (w : World)
    (HW : Calls Try.prog 20 #[.slice p n c] w fun e w' => e = .returned (.int .u32 (off : Int)) ∧ Below w.heap.size w w') :
    Calls Try.prog 18 #[.slice p n c] w fun e w' =>
      e = .returned (.tuple #[.int .i64 (hAt n (lastHit off (8 * n))), .int .i64 (hBit (lastHit off (8 * n))), .bool (hOk (lastHit off (8 * n)))]) ∧ Below w.heap.size w w' := by
  have HW' := Lib.hid HW
  clear HW
  go_enter Try.func18, Try.ntmps18
  go_wp2_with (go_at_call 20; (with_reducible refine HW'.out.mono ?_); rintro e w1 ⟨rfl, hb⟩; have HB := Lib.hid hb; clear hb)
  go_loop [6, 7, 8, 9, 19] (fun av bv kv tv iv => HitOut n off av bv kv tv iv) (fun _ _ _ _ iv => n - (intOf iv).toNat)
  case atStart => exact ⟨0, by omega, rfl, rfl, rfl, rfl, rfl⟩
  case round =>
    obtain ⟨i, hi, rfl, h⟩ := hrel
    rcases Nat.lt_or_ge i n with g | g
    · have H := Lib.hid h
      clear h
      have hd : decide ((i : Int) < (n : Int)) = true := decide_eq_true (by omega)
      go_wp2_with fail
      go_loop [6, 7, 8, 9, 22] (fun av bv kv tv jv => HitIn n off i av bv kv tv jv) (fun _ _ _ _ jv => 8 - (intOf jv).toNat)
      case atStart => exact ⟨0, by omega, rfl, H.out⟩
      case round =>
        obtain ⟨k, hk, rfl, h⟩ := hrel
        rcases Nat.lt_or_ge k 8 with g2 | g2
        · obtain rfl := h.2.2.2
          have ht := Crc.T_lt (8 * i + k) 2147483648 (by decide)
          have H2 := Lib.hid h
          clear h H
          obtain ⟨t, hte⟩ : ∃ t, t = Crc.T (8 * i + k) 2147483648 := ⟨_, rfl⟩
          rw [← hte] at ht H2 ⊢
          have Ht := Lib.hid hte
          have HS := step_ret ht
          by_cases he : t = off
          · have He := Lib.hid he
            have heq : ((t : Int) == (off : Int)) = true := by rw [beq_iff_eq, he]
            clear he hte
            go_wp2_with (go_at_call 19; (with_reducible refine (HS.go _).mono ?_); rintro e wx ⟨rfl, rfl⟩)
            go_round
            case rel => exact hit_yes g2 (by rw [Ht.out]) (by rw [← Ht.out]; exact He.out) (by omega) (by omega) (by omega)
            case measure => simp [intOf]; omega
          · have He := Lib.hid he
            have heq : ((t : Int) == (off : Int)) = false := by rw [beq_eq_false_iff_ne]; omega
            clear he hte
            go_wp2_with (go_at_call 19; (with_reducible refine (HS.go _).mono ?_); rintro e wx ⟨rfl, rfl⟩)
            go_round
            case rel => exact hit_no g2 H2.out (by rw [Ht.out]) (by rw [← Ht.out]; exact He.out) (by omega)
            case measure => simp [intOf]; omega
        · obtain rfl : k = 8 := by omega
          have H2 := Lib.hid h
          clear h H
          go_wp2_with fail
          go_round
          case rel => exact ⟨i + 1, by omega, by go_num, by rw [show 8 * (i + 1) = 8 * i + 8 by omega]; exact H2.out⟩
          case measure => simp [intOf]; omega
    · obtain rfl : i = n := by omega
      obtain ⟨rfl, rfl, rfl, rfl⟩ := h
      go_wp2_with fail
      go_ret3
      exact ⟨rfl, HB.out⟩

/-- What Hit finds: whichever bit it is, counted from the end. -/
def hitOf (xs : List Nat) : Option Nat := if xs.length < 4 then none else lastHit (Crc.wrong xs) (8 * xs.length)
theorem hit_any {v : Value} {xs : List Nat} {w : World} (h : BArg w v xs) (hl : xs.length ≤ 140737488355000) :
    Calls Try.prog 18 #[v] w fun e w' =>
      e = .returned (.tuple #[.int .i64 (hAt xs.length (hitOf xs)), .int .i64 (hBit (hitOf xs)), .bool (hOk (hitOf xs))]) ∧ Below w.heap.size w w' := by
  rcases Nat.lt_or_ge xs.length 4 with h4 | h4
  · obtain ⟨p, c, rfl⟩ := h.slice
    unfold hitOf
    rw [if_pos h4]
    exact hit_short p _ c h4 w
  · have HW := wrong_any h h4 hl
    obtain ⟨p, c, rfl⟩ := h.slice
    unfold hitOf
    rw [if_neg (by omega)]
    exact hit_long p _ c _ h4 hl w HW

theorem lastHit_none {off : Nat} : ∀ n, lastHit off n = none → ∀ j, j < n → Crc.T j 2147483648 ≠ off
  | 0, _, j, hj => by omega
  | n + 1, h, j, hj => by
    unfold lastHit at h
    by_cases he : Crc.T n 2147483648 = off
    · rw [if_pos he] at h; cases h
    · rw [if_neg he] at h
      rcases Nat.lt_or_ge j n with g | g
      · exact lastHit_none n h j g
      · obtain rfl : j = n := by omega
        exact he
theorem lastHit_some {off k : Nat} : ∀ n, lastHit off n = some k → k < n ∧ Crc.T k 2147483648 = off ∧ ∀ j, k < j → j < n → Crc.T j 2147483648 ≠ off
  | 0, h => by cases h
  | n + 1, h => by
    unfold lastHit at h
    by_cases he : Crc.T n 2147483648 = off
    · rw [if_pos he] at h
      obtain rfl := Option.some.inj h
      exact ⟨by omega, he, fun j h1 h2 => by omega⟩
    · rw [if_neg he] at h
      obtain ⟨h1, h2, h3⟩ := lastHit_some n h
      refine ⟨by omega, h2, fun j g1 g2 => ?_⟩
      rcases Nat.lt_or_ge j n with g | g
      · exact h3 j g1 g
      · obtain rfl : j = n := by omega
        exact he
theorem lastHit_eq {off k n : Nat} (hk : k < n) (he : Crc.T k 2147483648 = off) (hr : ∀ j, k < j → j < n → Crc.T j 2147483648 ≠ off) : lastHit off n = some k := by
  cases h : lastHit off n with
  | none => exact absurd he (lastHit_none n h k hk)
  | some j =>
    obtain ⟨h1, h2, h3⟩ := lastHit_some n h
    rcases Nat.lt_trichotomy j k with g | g | g
    · exact absurd he (h3 k g hk)
    · rw [g]
    · exact absurd h2 (hr j g h1)

end Go.Proofs.Ytglmkjnhkjljpab
