/- RateEnds: the least and the greatest of any floats, and how many are numbers. -/
import Derived.Test.YtfohfpeeghnocabEnds
import Derived.Test.YtfohfpeeghnocabPpm
import Derived.Test.YtfohfpeeghnocabPow
namespace Go.Proofs.Ytfohfpeeghnocab
open Go.RowKit

theorem head_ends (w : World) : Calls Try.prog 29 #[.slice (some ⟨w.heap.size, 0, none⟩) 3 3] (w.alloc (.cells #[.float .f64 4611686018427387904, .float .f64 9221120237041090561, .float .f64 4607182418800017408] 22)) fun e w' =>
    e = .returned (.tuple #[.float .f64 4607182418800017408, .float .f64 4611686018427387904, .int .i64 2]) ∧ Below w.heap.size w w' := by
  have h := ends_some w.heap.size 0 3 [4611686018427387904, 9221120237041090561, 4607182418800017408] (w.alloc (.cells #[.float .f64 4611686018427387904, .float .f64 9221120237041090561, .float .f64 4607182418800017408] 22)) (by simp) (by simp) (by simp) (by
    intro k hk
    have : k = 0 ∨ k = 1 ∨ k = 2 := by simp at hk; omega
    rcases this with rfl | rfl | rfl <;> simp)
  have hext : ext [4611686018427387904, 9221120237041090561, 4607182418800017408] = ⟨4607182418800017408, 4611686018427387904, 2⟩ := by rfl
  refine h.mono fun e w' h => ?_
  obtain ⟨h1, h2⟩ := h
  rw [hext] at h1
  exact ⟨h1, bTr' (bAl (bRef' w) _) h2⟩

def LawRel (w : World) (xs : List Nat) (fv lv cv iv : Value) (wr : World) : Prop :=
  ∃ k, k ≤ xs.length ∧ iv = .int .i64 (k : Int) ∧ fv = .int .u64 (((ext (xs.take k)).lo : Nat) : Int) ∧ lv = .int .u64 (((ext (xs.take k)).hi : Nat) : Int) ∧ cv = .int .i64 (((ext (xs.take k)).n : Nat) : Int) ∧ Below w.heap.size w wr
theorem law_go {w wr : World} {xs : List Nat} {k : Nat} {l h c : Int} {s : Ext} (hk : k < xs.length) (hs : stp (ext (xs.take k)) (xs.getD k 0) = s) (e1 : l = (s.lo : Int)) (e2 : h = (s.hi : Int)) (e3 : c = (s.n : Int)) (hb : Below w.heap.size w wr) :
    LawRel w xs (.int .u64 l) (.int .u64 h) (.int .i64 c) (.int .i64 ((k : Int) + 1)) wr := by
  subst e1 e2 e3
  refine ⟨k + 1, by omega, by rw [Int.natCast_add]; rfl, ?_, ?_, ?_, hb⟩ <;> rw [ext_take hk, hs]
theorem stp_at {s e r : Ext} {x y : Nat} (hs : s = e) (hx : x = y) (h : stp s x = r) : stp e y = r := by rw [← hs, ← hx]; exact h
theorem stp_gen {lo hi cn x : Nat} {t1 t2 : Bool} (h : isN x = false) (h0 : cn ≠ 0) (h1 : decide (pl x < pl lo) = t1) (h2 : decide (pl hi < pl x) = t2) : stp ⟨lo, hi, cn⟩ x = ⟨if t1 = true then x else lo, if t2 = true then x else hi, cn + 1⟩ := by
  subst h1 h2
  unfold stp
  rw [if_neg (by rw [h]; simp)]
  simp [h0]

theorem ends_long (a : Option Addr) (n c : Nat) (hn : 200 < n) (w : World) :
    Calls Try.prog 6 #[.slice a n c] w fun e w' => e = .returned (.bool true) ∧ Below w.heap.size w w' := by
  have HN := nan_ret
  have c1 : (FloatKind.f64.format.order 4607182418800017408 4607182418800017408 != some .eq) = false := by decide
  have c2 : (FloatKind.f64.format.order 4611686018427387904 4611686018427387904 != some .eq) = false := by decide
  have hd : decide ((200 : Int) < (n : Int)) = true := decide_eq_true (by omega)
  go_enter Try.func6, Try.ntmps6
  go_wp2_with (first | (go_at_call 30; (with_reducible refine (HN.go _).mono ?_); rintro e wx ⟨rfl, hb⟩; have HB := Lib.hid hb; clear hb) | (go_at_call 29; (with_reducible refine (head_ends _).mono ?_); rintro e wx ⟨rfl, hb⟩; replace HB := Lib.hid (bTr' HB.out hb); clear hb))
  go_ret
  exact ⟨rfl, HB.out⟩

theorem ends_empty (a : Option Addr) (c : Nat) (w : World) :
    Calls Try.prog 6 #[.slice a 0 c] w fun e w' => e = .returned (.bool true) ∧ Below w.heap.size w w' := by
  have HN := nan_ret
  have c1 : (FloatKind.f64.format.order 4607182418800017408 4607182418800017408 != some .eq) = false := by decide
  have c2 : (FloatKind.f64.format.order 4611686018427387904 4611686018427387904 != some .eq) = false := by decide
  have b0 := fun W => f64bits_eq 0 W
  go_enter Try.func6, Try.ntmps6
  go_wp2_with (first | (go_at_call 30; (with_reducible refine (HN.go _).mono ?_); rintro e wx ⟨rfl, hb⟩; have HB := Lib.hid hb; clear hb) | (go_at_call 29; (with_reducible refine (head_ends _).mono ?_); rintro e wx ⟨rfl, hb⟩; replace HB := Lib.hid (bTr' HB.out hb); clear hb))
  go_loopw [6, 7, 8, 39] (fun fv lv cv iv wr => LawRel w [] fv lv cv iv wr) (fun _ _ _ _ _ => 0)
  case atStart => exact ⟨0, by simp, rfl, rfl, rfl, rfl, HB.out⟩
  case round =>
    clear HB
    obtain ⟨k, hk, rfl, rfl, rfl, rfl, hb⟩ := hrel
    obtain rfl : k = 0 := by simpa using hk
    have HB := Lib.hid hb
    clear hb
    have HE : ∀ w, Calls Try.prog 29 #[.slice a 0 c] w fun e w' => e = .returned (.tuple #[.float .f64 0, .float .f64 0, .int .i64 0]) ∧ Below w.heap.size w w' := fun w => ends_none a c w
    go_wp2_with (go_at_call 29; (with_reducible refine (HE _).mono ?_); rintro e wx ⟨rfl, hb⟩; replace HB := Lib.hid (bTr' HB.out hb); clear hb)
    go_ret
    exact ⟨rfl, HB.out⟩

set_option maxHeartbeats 4000000 in
theorem ends_list (b o c : Nat) (xs : List Nat) (w : World) (hl : xs.length ≤ 200) (h0 : 0 < xs.length) (hx : ∀ x ∈ xs, x < 18446744073709551616) (hlt : b < w.heap.size) (hc : xs.length ≤ c)
    (hr : ∀ k, k < xs.length → w.cell? ⟨b, o + k, none⟩ = some (.float .f64 (xs.getD k 0))) :
    Calls Try.prog 6 #[.slice (some ⟨b, o, none⟩) xs.length c] w fun e w' => e = .returned (.bool true) ∧ Below w.heap.size w w' := by
  have HN := nan_ret
  have c1 : (FloatKind.f64.format.order 4607182418800017408 4607182418800017408 != some .eq) = false := by decide
  have c2 : (FloatKind.f64.format.order 4611686018427387904 4611686018427387904 != some .eq) = false := by decide
  have HA := Lib.hid (show FArg w (.slice (some ⟨b, o, none⟩) xs.length c) xs from ⟨hx, .inr ⟨h0, b, o, c, rfl, hc, hlt, hr⟩⟩)
  obtain ⟨n, hn⟩ : ∃ n, n = xs.length := ⟨_, rfl⟩
  rw [← hn] at hl HA ⊢
  have Hn := Lib.hid hn
  have Hr := Lib.hid hr
  have Hx := Lib.hid hx
  have Hlt := Lib.hid hlt
  clear hn hr hx h0 hc hlt
  have hd : decide ((200 : Int) < (n : Int)) = false := decide_eq_false (by omega)
  go_enter Try.func6, Try.ntmps6
  go_wp2_with (first | (go_at_call 30; (with_reducible refine (HN.go _).mono ?_); rintro e wx ⟨rfl, hb⟩; have HB := Lib.hid hb; clear hb) | (go_at_call 29; (with_reducible refine (head_ends _).mono ?_); rintro e wx ⟨rfl, hb⟩; replace HB := Lib.hid (bTr' HB.out hb); clear hb))
  go_loopw [6, 7, 8, 39] (fun fv lv cv iv wr => LawRel w xs fv lv cv iv wr) (fun _ _ _ iv _ => n - (intOf iv).toNat)
  case atStart => exact ⟨0, by omega, rfl, rfl, rfl, rfl, HB.out⟩
  case round =>
    clear HB
    obtain ⟨k, hk, rfl, rfl, rfl, rfl, hb⟩ := hrel
    have HB := Lib.hid hb
    clear hb
    rcases Nat.lt_or_ge k n with h | h
    · have hdec : decide ((k : Int) < (n : Int)) = true := decide_eq_true (by omega)
      have hcell := (HB.out.cell (p := ⟨b, o + k, none⟩) Hlt.out).trans (Hr.out k (by rw [← Hn.out]; exact h))
      have Hk := Lib.hid (show k < xs.length by rw [← Hn.out]; exact h)
      have hxl := getD_lt Hx.out k
      have Hnn := Lib.hid (Nat.le_trans (ext_n (xs.take k)) (by rw [List.length_take]; exact Nat.min_le_left ..))
      have hbits := ext_bits (xs := xs.take k) (fun x hx => Hx.out x (List.mem_of_mem_take hx))
      obtain ⟨s, hs⟩ : ∃ s, s = ext (xs.take k) := ⟨_, rfl⟩
      have Hs := Lib.hid hs
      rw [← hs] at Hnn hbits ⊢
      clear hs
      obtain ⟨lo, hi, cn⟩ := s
      obtain ⟨x, hxe⟩ : ∃ x, x = xs.getD k 0 := ⟨_, rfl⟩
      rw [← hxe] at hxl hcell
      have Hxe := Lib.hid hxe
      clear hxe
      dsimp only at hbits Hnn
      obtain ⟨hlo, hhi⟩ := hbits
      have hbx := fun W => f64bits_eq x W
      have hcn : IntKind.i64.wrap ((cn : Int) + 1) = (cn : Int) + 1 := IntWalk.i64_in _ (by have := Hnn.out; omega)
      by_cases hN : 9218868437227405312 < rung x
      · have HP := parts_inf hxl (by omega)
        rw [decide_eq_false (show ¬ rung x = 9218868437227405312 by omega)] at HP
        have H1 := Lib.hid (show isN x = true from decide_eq_true hN)
        clear hN
        go_wp2_with (go_at_call 18; (with_reducible refine (HP.go _).mono ?_); rintro e wx ⟨rfl, hb⟩; replace HB := Lib.hid (bTr' HB.out hb); clear hb)
        go_roundw
        case rel => exact law_go (s := ⟨lo, hi, cn⟩) Hk.out (by rw [← Hs.out, ← Hxe.out]; exact stp_nan H1.out) rfl rfl rfl HB.out
        case measure => simp [intOf]; go_num
      have H1 := Lib.hid (show isN x = false from decide_eq_false hN)
      by_cases hI : rung x = 9218868437227405312
      · have HP := parts_inf hxl (by omega)
        rw [decide_eq_true hI] at HP
        clear hN hI
        by_cases h0 : cn = 0
        · subst h0
          go_wp2_with (go_at_call 18; (with_reducible refine (HP.go _).mono ?_); rintro e wx ⟨rfl, hb⟩; replace HB := Lib.hid (bTr' HB.out hb); clear hb)
          go_roundw
          case rel => exact law_go (s := ⟨x, x, 0 + 1⟩) Hk.out (by rw [← Hs.out, ← Hxe.out]; exact stp_first H1.out rfl) rfl rfl rfl HB.out
          case measure => simp [intOf]; go_num
        · have hz : ((cn : Int) == 0) = false := by rw [beq_eq_false_iff_ne]; omega
          have H0 := Lib.hid h0
          clear h0
          have P1 := less_ret hxl hlo
          have P2 := less_ret hhi hxl
          cases t1 : decide (pl x < pl lo) <;> cases t2 : decide (pl hi < pl x)
          all_goals
            rw [t1] at P1
            rw [t2] at P2
            have T1 := Lib.hid t1
            have T2 := Lib.hid t2
            clear t1 t2
            go_wp2_with (first | (go_at_call 18; (with_reducible refine (HP.go _).mono ?_); rintro e wx ⟨rfl, hb⟩; replace HB := Lib.hid (bTr' HB.out hb); clear hb) | (go_at_call 31; (with_reducible refine (P1.go _).mono ?_); rintro e wx ⟨rfl, rfl⟩) | (go_at_call 31; (with_reducible refine (P2.go _).mono ?_); rintro e wx ⟨rfl, rfl⟩))
            go_roundw
            case rel => exact law_go Hk.out (stp_at Hs.out Hxe.out (stp_gen H1.out H0.out T1.out T2.out)) (by simp) (by simp) (by go_num) HB.out
            case measure => simp [intOf]; go_num
      · have HP := parts_fin (b := x) ⟨hxl, by omega⟩
        clear hN hI
        by_cases h0 : cn = 0
        · subst h0
          go_wp2_with (go_at_call 18; (with_reducible refine (HP _).mono ?_); rintro e wx ⟨v1, rfl, _, hb, _⟩; replace HB := Lib.hid (bTr' HB.out hb); clear hb)
          go_roundw
          case rel => exact law_go (s := ⟨x, x, 0 + 1⟩) Hk.out (by rw [← Hs.out, ← Hxe.out]; exact stp_first H1.out rfl) rfl rfl rfl HB.out
          case measure => simp [intOf]; go_num
        · have hz : ((cn : Int) == 0) = false := by rw [beq_eq_false_iff_ne]; omega
          have H0 := Lib.hid h0
          clear h0
          have P1 := less_ret hxl hlo
          have P2 := less_ret hhi hxl
          cases t1 : decide (pl x < pl lo) <;> cases t2 : decide (pl hi < pl x)
          all_goals
            rw [t1] at P1
            rw [t2] at P2
            have T1 := Lib.hid t1
            have T2 := Lib.hid t2
            clear t1 t2
            go_wp2_with (first | (go_at_call 18; (with_reducible refine (HP _).mono ?_); rintro e wx ⟨v1, rfl, _, hb, _⟩; replace HB := Lib.hid (bTr' HB.out hb); clear hb) | (go_at_call 31; (with_reducible refine (P1.go _).mono ?_); rintro e wx ⟨rfl, rfl⟩) | (go_at_call 31; (with_reducible refine (P2.go _).mono ?_); rintro e wx ⟨rfl, rfl⟩))
            go_roundw
            case rel => exact law_go Hk.out (stp_at Hs.out Hxe.out (stp_gen H1.out H0.out T1.out T2.out)) (by simp) (by simp) (by go_num) HB.out
            case measure => simp [intOf]; go_num
    · have hdec : decide ((k : Int) < (n : Int)) = false := decide_eq_false (by omega)
      obtain rfl : k = n := by have := Hn.out; omega
      have htake : xs.take k = xs := by rw [Hn.out, List.take_length]
      rw [htake]
      clear htake h hk
      have HE := fun w' (hf : FArg w' (.slice (some ⟨b, o, none⟩) k c) xs) => ends_any hf (by rw [← Hn.out]; omega)
      unfold EndsPost at HE
      generalize ext xs = s at *
      obtain ⟨lo, hi, cn⟩ := s
      have b1 := fun W => f64bits_eq lo W
      have b2 := fun W => f64bits_eq hi W
      go_wp2_with (go_at_call 29; (with_reducible refine (HE _ (HA.out.below HB.out)).mono ?_); rintro e wx ⟨rfl, hb⟩; replace HB := Lib.hid (bTr' HB.out hb); clear hb)
      go_ret
      exact ⟨by simp, HB.out⟩

theorem ends_walk (v : Value) (xs : List Nat) (w : World) (h : FArg w v xs) : Calls Try.prog 6 #[v] w fun e w' => e = .returned (.bool true) ∧ Below w.heap.size w w' := by
  obtain ⟨h1, h2⟩ := h
  rcases h2 with ⟨rfl, a, c, rfl⟩ | ⟨h0, b, o, c, rfl, hc, hlt, hr⟩
  · exact ends_empty a c w
  · rcases Nat.lt_or_ge 200 xs.length with hl | hl
    · exact ends_long _ _ _ hl w
    · exact ends_list b o c xs w hl h0 h1 hlt hc hr

end Go.Proofs.Ytfohfpeeghnocab
