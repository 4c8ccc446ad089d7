/- Package osc: New in whatever later world. -/
import Derived.Test.YtffjbngelapmmaaOsArg
import Derived.Test.YtffjbngelapmmaaLow
namespace Go.Proofs.Ytffjbngelapmmaa
open Go.RowKit Go.Joins

theorem newRight {p : Option Addr} {n c : Nat} {s g : Int} {ts : List (Int × Int)} {w : World} (h : TArg w (.slice p n c) ts) (hx : newE s g ts = 0) :
    Hid (∀ w1, Below w.heap.size w w1 → Calls Try.prog 9 #[.int .i64 s, .int .i64 g, .slice p n c] w1 fun e w' => ∃ b, e = .returned (.tuple #[.pointer (some ⟨b, 0, none⟩), .int .i64 0]) ∧ Clk w1.heap.size w' (.pointer (some ⟨b, 0, none⟩)) s g ts ∧ Below w1.heap.size w1 w') :=
  Lib.hid (fun w1 hb => (new_any (s := s) (g := g) (h.below hb)).mono fun e w' hh => by
    obtain ⟨v, rfl, hc⟩ := hh.2.1 hx
    have hc' := hc
    obtain ⟨b, l, c, rfl, _⟩ := hc'
    exact ⟨b, rfl, hc, hh.2.2⟩)
theorem newWrong {p : Option Addr} {n c : Nat} {s g x : Int} {ts : List (Int × Int)} {w : World} (h : TArg w (.slice p n c) ts) (hx : newE s g ts = x) (h0 : x ≠ 0) :
    Hid (∀ w1, Below w.heap.size w w1 → Calls Try.prog 9 #[.int .i64 s, .int .i64 g, .slice p n c] w1 fun e w' => e = .returned (.tuple #[.pointer none, .int .i64 x]) ∧ Below w1.heap.size w1 w') :=
  Lib.hid (fun w1 hb => (new_any (s := s) (g := g) (h.below hb)).mono fun e w' hh => ⟨by rw [← hx]; exact hh.1 (by rw [hx]; exact h0), hh.2.2⟩)
theorem newE_start {a b g : Int} {ts : List (Int × Int)} (ha : Start a) (hb : Start b) : newE a g ts = newE b g ts := by
  unfold newE
  unfold Start at ha hb
  by_cases h64 : 64 < ts.length
  · rw [if_pos h64, if_pos h64]
  rw [if_neg h64, if_neg h64]
  by_cases h1 : ts.length = 0 ∨ tA ts 0 ≠ 0 ∨ g < 1 ∨ 1000 < g
  · rw [if_pos (by omega), if_pos (by omega)]
  · rw [if_neg (by omega), if_neg (by omega)]
theorem low48 (n : Int) : bits .and .i64 n 281474976710655 = n % 281474976710656 := and_low n 48 (by omega)
theorem low40 (n : Int) : bits .and .i64 n 1099511627775 = n % 1099511627776 := and_low n 40 (by omega)
theorem low39 (n : Int) : bits .and .i64 n 549755813887 = n % 549755813888 := and_low n 39 (by omega)
theorem low32 (n : Int) : bits .and .i64 n 4294967295 = n % 4294967296 := and_low n 32 (by omega)
theorem low9 (n : Int) : bits .and .i64 n 511 = n % 512 := and_low n 9 (by omega)

end Go.Proofs.Ytffjbngelapmmaa
