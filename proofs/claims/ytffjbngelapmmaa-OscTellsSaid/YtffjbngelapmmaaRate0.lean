/- Package rate: its product by wide's. -/
import Derived.Test.YtffjbngelapmmaaRefMd
namespace Go.Proofs.Ytffjbngelapmmaa
open Go.RowKit

def rV (a b c : Int) : Int := mdV a b c 2
def rE (a b c : Int) : Int := mdE a b c 2

theorem rMd_ret {a b c : Int} (ha : In64 a) (hb : In64 b) (hc : In64 c) :
    Ret 37 #[.int .i64 a, .int .i64 b, .int .i64 c] (.tuple #[.int .i64 (rV a b c), .int .i64 (rE a b c)]) := fun w => by
  have H := mulDiv_ret (a := a) (b := b) (c := c) 2 ha hb hc
  change Ret _ _ (.tuple #[.int .i64 (rV a b c), .int .i64 (rE a b c)]) at H
  generalize rV a b c = v at *
  generalize rE a b c = x at *
  go_enter Try.func37, Try.ntmps37
  go_wp2_with (first
    | (go_at_call 33; (with_reducible refine (H.go _).mono ?_); rintro e wx ⟨rfl, hb⟩))
  go_ret2
  exact ⟨rfl, hb⟩

theorem rMul_ret {a b : Int} (ha : In64 a) (hb : In64 b) :
    Ret 30 #[.int .i64 a, .int .i64 b] (.tuple #[.int .i64 (rV a b 2199023255552), .int .i64 (rE a b 2199023255552)]) := fun w => by
  have H := rMd_ret (a := a) (b := b) (c := 2199023255552) ha hb ⟨by omega, by omega⟩
  generalize rV a b 2199023255552 = v at *
  generalize rE a b 2199023255552 = x at *
  go_enter Try.func30, Try.ntmps30
  go_wp2_with (first
    | (go_at_call 37; (with_reducible refine (H.go _).mono ?_); rintro e wx ⟨rfl, hb⟩))
  go_ret2
  exact ⟨rfl, hb⟩


end Go.Proofs.Ytffjbngelapmmaa
