/- A part of memory loaded, a struct built, within a region that draws its order. -/
import Derived.Test.YtholemjbjmkpkaaBtRow
namespace Go.Proofs.Ytholemjbjmkpkaa
open Go.RowKit Go.Joins

theorem loadOp {a : Act} {o : Oper} {W : World} (ty : TypeId) (x : Operand) (ho : o.op = .load ty x) (b f : Nat) (cs : Array Value) (d : TypeDesc) (hc : W.rangeAt b f cs.toList) (hu : Try.prog.underlying ty = some d) (hd : d.isRow = true) (hi : (Try.prog.info? ty).map (·.size) = some cs.size) (hx : a.eval x = .pointer (some ⟨b, f, none⟩)) : (execOp a.eval o).run Try.prog W = .ok (.value (.agg cs)) W := by
  have k := run_loadAt_mid (P := Try.prog) W b f ty cs.toList _ hc hu hd (by simpa using hi)
  unfold execOp
  simp only [ho, hx]
  rw [Sem.run_bind, k]
  rfl
theorem buildOp (t : TypeId) (ps : Array (Nat × Operand)) {o : Oper} (ho : o.op = .build t ps) {a : Act} (cs : Array Value) (hb : Try.prog.built t (ps.map fun (i, x) => (i, a.eval x)).toList = some cs) (W : World) : (execOp a.eval o).run Try.prog W = .ok (.value (.agg cs)) W := by
  unfold execOp
  simp only [ho, Sem.run_bind, run_build W t _ cs hb, Result.andThen_ok]
  rfl

end Go.Proofs.Ytholemjbjmkpkaa
