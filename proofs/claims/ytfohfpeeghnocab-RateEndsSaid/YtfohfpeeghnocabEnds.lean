/- Package rate: Ends, of any list of floats. -/
import Derived.Test.YtfohfpeeghnocabEnds0
import Derived.Test.YtfohfpeeghnocabFArg
import Derived.WalkMore
namespace Go.Proofs.Ytfohfpeeghnocab
open Go.RowKit

def EndsRel (w : World) (xs : List Nat) (lov hiv cv iv : Value) (wr : World) : Prop :=
  ∃ k, k ≤ xs.length ∧ iv = .int .i64 (k : Int) ∧ lov = .float .f64 (ext (xs.take k)).lo ∧ hiv = .float .f64 (ext (xs.take k)).hi ∧ cv = .int .i64 (((ext (xs.take k)).n : Nat) : Int) ∧ Below w.heap.size w wr
def EndsPost (w : World) (xs : List Nat) (e : Ending) (w' : World) : Prop :=
  e = .returned (.tuple #[.float .f64 (ext xs).lo, .float .f64 (ext xs).hi, .int .i64 (((ext xs).n : Nat) : Int)]) ∧ Below w.heap.size w w'

theorem ends_none (a : Option Addr) (c : Nat) (w : World) : Calls Try.prog 29 #[.slice a 0 c] w (EndsPost w []) := by
  go_enter Try.func29, Try.ntmps29
  go_wp2_with fail
  go_step3
  go_wp2_with fail
  go_step3
  go_wp2_with fail
  go_loopw [5, 6, 7, 12] (fun lov hiv cv iv wr => EndsRel w [] lov hiv cv iv wr) (fun _ _ _ _ _ => 0)
  case atStart => exact ⟨0, by simp, rfl, rfl, rfl, rfl, bRef w⟩
  case round =>
    obtain ⟨k, hk, rfl, rfl, rfl, rfl, hb⟩ := hrel
    obtain rfl : k = 0 := by simpa using hk
    go_wp2_with fail
    try rw [Exit.noGoto_ret]
    exact bodyPost_ret (v := .tuple #[.float .f64 0, .float .f64 0, .int .i64 0]) (by simp [results, Try.results29, go_sem, ext]) rfl ⟨rfl, hb⟩

theorem ends_go {w wr : World} {xs : List Nat} {k : Nat} {l h : Nat} {c : Int} {s : Ext} (hk : k < xs.length) (hs : stp (ext (xs.take k)) (xs.getD k 0) = s) (e1 : l = s.lo) (e2 : h = s.hi) (e3 : c = (s.n : Int)) (hb : Below w.heap.size w wr) :
    EndsRel w xs (.float .f64 l) (.float .f64 h) (.int .i64 c) (.int .i64 ((k : Int) + 1)) wr := by
  subst e1 e2 e3
  refine ⟨k + 1, by omega, by rw [Int.natCast_add]; rfl, ?_, ?_, ?_, hb⟩ <;> rw [ext_take hk, hs]

set_option maxHeartbeats 2000000 in
theorem ends_some (b o c : Nat) (xs : List Nat) (w : World) (hl : xs.length ≤ 100000) (hx : ∀ x ∈ xs, x < 18446744073709551616) (hlt : b < w.heap.size)
    (hr : ∀ k, k < xs.length → w.cell? ⟨b, o + k, none⟩ = some (.float .f64 (xs.getD k 0))) :
    Calls Try.prog 29 #[.slice (some ⟨b, o, none⟩) xs.length c] w (EndsPost w xs) := by
  obtain ⟨n, hn⟩ : ∃ n, n = xs.length := ⟨_, rfl⟩
  rw [← hn] at hl ⊢
  have Hn := Lib.hid hn
  have Hr := Lib.hid hr
  have Hx := Lib.hid hx
  clear hn hr hx
  go_enter Try.func29, Try.ntmps29
  go_wp2_with fail
  go_step3
  go_wp2_with fail
  go_step3
  go_wp2_with fail
  go_loopw [5, 6, 7, 12] (fun lov hiv cv iv wr => EndsRel w xs lov hiv cv iv wr) (fun _ _ _ iv _ => n - (intOf iv).toNat)
  case atStart => exact ⟨0, by omega, rfl, rfl, rfl, rfl, bRef w⟩
  case round =>
    obtain ⟨k, hk, rfl, rfl, rfl, rfl, hb⟩ := hrel
    have HB := Lib.hid hb
    clear hb
    rcases Nat.lt_or_ge k n with h | h
    · have hdec : decide ((k : Int) < (n : Int)) = true := decide_eq_true (by omega)
      have hcell := (HB.out.cell (p := ⟨b, o + k, none⟩) hlt).trans (Hr.out k (by rw [← Hn.out]; exact h))
      have Hk := Lib.hid (show k < xs.length by rw [← Hn.out]; exact h)
      have hxl := getD_lt Hx.out k
      have Hok := Lib.hid (ext_ok (xs.take k))
      have Hnn := Lib.hid (Nat.le_trans (ext_n (xs.take k)) (by rw [List.length_take]; exact Nat.min_le_left ..))
      have hbits := ext_bits (xs := xs.take k) (fun x hx => Hx.out x (List.mem_of_mem_take hx))
      obtain ⟨s, hs⟩ : ∃ s, s = ext (xs.take k) := ⟨_, rfl⟩
      have Hs := Lib.hid hs
      rw [← hs] at Hok Hnn hbits ⊢
      clear hs
      obtain ⟨lo, hi, cn⟩ := s
      obtain ⟨x, hxe⟩ : ∃ x, x = xs.getD k 0 := ⟨_, rfl⟩
      rw [← hxe] at hxl hcell
      have Hxe := Lib.hid hxe
      clear hxe
      dsimp only at hbits Hnn
      obtain ⟨hlo, hhi⟩ := hbits
      have HN := isNo_ret hxl
      have P1 := place_ret hxl
      have P2 := place_ret hlo
      have P3 := place_ret hhi
      have hcn : IntKind.i64.wrap ((cn : Int) + 1) = (cn : Int) + 1 := IntWalk.i64_in _ (by have := Hnn.out; omega)
      cases h1 : isN x
      · unfold isN at h1
        rw [h1] at HN
        have H1 := Lib.hid h1
        clear h1
        by_cases h0 : cn = 0
        · subst h0
          go_wp2_with (go_at_call 34; (with_reducible refine (HN.go _).mono ?_); rintro e wx ⟨rfl, rfl⟩)
          go_roundw
          case rel => exact ends_go (s := ⟨x, x, 0 + 1⟩) Hk.out (by rw [← Hs.out, ← Hxe.out]; exact stp_first H1.out rfl) rfl rfl rfl HB.out
          case measure => simp [intOf]; go_num
        have hz : ((cn : Int) == 0) = false := by rw [beq_eq_false_iff_ne]; omega
        have H0 := Lib.hid h0
        clear h0
        by_cases h2 : pl x < pl lo
        · have hd2 : decide (((pl x : Nat) : Int) < ((pl lo : Nat) : Int)) = true := decide_eq_true (by omega)
          have H2 := Lib.hid h2
          clear h2
          go_wp2_with (first | (go_at_call 34; (with_reducible refine (HN.go _).mono ?_); rintro e wx ⟨rfl, rfl⟩) | (go_at_call 42; (with_reducible refine (P1.go _).mono ?_); rintro e wx ⟨rfl, rfl⟩) | (go_at_call 42; (with_reducible refine (P2.go _).mono ?_); rintro e wx ⟨rfl, rfl⟩))
          go_roundw
          case rel => exact ends_go (s := ⟨x, hi, cn + 1⟩) Hk.out (by rw [← Hs.out, ← Hxe.out]; exact stp_low H1.out H0.out Hok.out H2.out) rfl rfl (by go_num) HB.out
          case measure => simp [intOf]; go_num
        · have hd2 : decide (((pl x : Nat) : Int) < ((pl lo : Nat) : Int)) = false := decide_eq_false (by omega)
          have H2 := Lib.hid h2
          clear h2
          by_cases h3 : pl hi < pl x
          · have hd3 : decide (((pl hi : Nat) : Int) < ((pl x : Nat) : Int)) = true := decide_eq_true (by omega)
            have H3 := Lib.hid h3
            clear h3
            go_wp2_with (first | (go_at_call 34; (with_reducible refine (HN.go _).mono ?_); rintro e wx ⟨rfl, rfl⟩) | (go_at_call 42; (with_reducible refine (P1.go _).mono ?_); rintro e wx ⟨rfl, rfl⟩) | (go_at_call 42; (with_reducible refine (P2.go _).mono ?_); rintro e wx ⟨rfl, rfl⟩) | (go_at_call 42; (with_reducible refine (P3.go _).mono ?_); rintro e wx ⟨rfl, rfl⟩))
            go_roundw
            case rel => exact ends_go (s := ⟨lo, x, cn + 1⟩) Hk.out (by rw [← Hs.out, ← Hxe.out]; exact stp_high H1.out H0.out H2.out H3.out) rfl rfl (by go_num) HB.out
            case measure => simp [intOf]; go_num
          · have hd3 : decide (((pl hi : Nat) : Int) < ((pl x : Nat) : Int)) = false := decide_eq_false (by omega)
            have H3 := Lib.hid h3
            clear h3
            go_wp2_with (first | (go_at_call 34; (with_reducible refine (HN.go _).mono ?_); rintro e wx ⟨rfl, rfl⟩) | (go_at_call 42; (with_reducible refine (P1.go _).mono ?_); rintro e wx ⟨rfl, rfl⟩) | (go_at_call 42; (with_reducible refine (P2.go _).mono ?_); rintro e wx ⟨rfl, rfl⟩) | (go_at_call 42; (with_reducible refine (P3.go _).mono ?_); rintro e wx ⟨rfl, rfl⟩))
            go_roundw
            case rel => exact ends_go (s := ⟨lo, hi, cn + 1⟩) Hk.out (by rw [← Hs.out, ← Hxe.out]; exact stp_mid H1.out H0.out H2.out H3.out) rfl rfl (by go_num) HB.out
            case measure => simp [intOf]; go_num
      · have H1 := Lib.hid h1
        unfold isN at h1
        rw [h1] at HN
        clear h1
        go_wp2_with (go_at_call 34; (with_reducible refine (HN.go _).mono ?_); rintro e wx ⟨rfl, rfl⟩)
        go_roundw
        case rel => exact ends_go (s := ⟨lo, hi, cn⟩) Hk.out (by rw [← Hs.out, ← Hxe.out]; exact stp_nan H1.out) rfl rfl rfl HB.out
        case measure => simp [intOf]; go_num
    · have hdec : decide ((k : Int) < (n : Int)) = false := decide_eq_false (by omega)
      obtain rfl : k = n := by have := Hn.out; omega
      have htake : xs.take k = xs := by rw [Hn.out, List.take_length]
      rw [htake]
      clear htake h hk
      generalize hs : ext xs = s
      obtain ⟨lo, hi, cn⟩ := s
      have Hs := Lib.hid hs
      clear hs
      go_wp2_with fail
      try rw [Exit.noGoto_ret]
      exact bodyPost_ret (v := .tuple #[.float .f64 lo, .float .f64 hi, .int .i64 (cn : Int)]) (by simp [results, Try.results29, go_sem]) rfl ⟨by rw [Hs.out], HB.out⟩

theorem ends_any {v : Value} {xs : List Nat} {w : World} (h : FArg w v xs) (hl : xs.length ≤ 100000) : Calls Try.prog 29 #[v] w (EndsPost w xs) := by
  obtain ⟨h1, h2⟩ := h
  rcases h2 with ⟨rfl, a, c, rfl⟩ | ⟨_, b, o, c, rfl, _, hlt, hr⟩
  · exact ends_none a c w
  · exact ends_some b o c xs w hl h1 hlt hr

end Go.Proofs.Ytfohfpeeghnocab
