/- Package ether: Size and Check. -/
import Derived.Test.YtbpkjljienadiaaFr
import Derived.Test.YtbpkjljienadiaaOwn
import Derived.Laws.Rows
namespace Go.Proofs.Ytbpkjljienadiaa
open Go.RowKit Go.Joins

/-- A whole frame loaded. -/
theorem wpList_loadF {ops : Array Oper} {rest : List Oper} {o : Oper} {a : Act} {w : World} {Q : Exit → Act → World → Prop} (hgd : o.guard = none) (x : Operand) (ho : o.op = .load 26 x)
    (g : Nat) (hx : a.eval x = .pointer (some ⟨g, 0, none⟩)) (cs : Array Value) (fr : Nat × Nat) (hg : w.heap[g]? = some (.cells cs 26 fr)) (hs : cs.size = 20)
    (h : wpList Try.prog ops Q rest (a.put o.dst (.agg cs)) w) : wpList Try.prog ops Q (o :: rest) a w :=
  wpList_load_row hgd 26 x ho g hx 26 cs fr _ hg Try.underlying26 rfl (by rw [hs]; kernel_rfl) h

/-- Stands only where a whole frame is loaded. -/
theorem at_loadF {ops : Array Oper} {rest : List Oper} {d : Option Tmp} {x : Operand} {t : TypeId} {s : String} {af : Array Edge} {a : Act} {w : World} {Q : Exit → Act → World → Prop}
    (h : wpList Try.prog ops Q (⟨d, .load 26 x, t, s, af, none⟩ :: rest) a w) : wpList Try.prog ops Q (⟨d, .load 26 x, t, s, af, none⟩ :: rest) a w := h

set_option maxHeartbeats 1000000 in
theorem size_ret (f : Fr) (p : Option Addr) (n c : Nat) (hn : f.data.length = n) (hl : n < 140737488355328) : Ret 18 #[FV f (.slice p n c)] (.int .i64 (f.size : Int)) := fun w => by
  obtain ⟨d0, d1, d2, d3, d4, d5, s0, s1, s2, s3, s4, s5, tg, vid, prio, dr, mn, seq, typ, data⟩ := f
  unfold FV Fr.size Fr.extra
  dsimp only at hn ⊢
  rw [hn]
  cases tg <;> cases mn <;> simp only [if_true, if_false, Bool.false_eq_true] <;>
  · clear hn
    go_enter Try.func18, Try.ntmps18
    go_wp2_with fail
    all_goals
      go_ret
      exact ⟨ret_i64 (max64 _ _ (by omega)), bAl (bRef w) _⟩

end Go.Proofs.Ytbpkjljienadiaa
