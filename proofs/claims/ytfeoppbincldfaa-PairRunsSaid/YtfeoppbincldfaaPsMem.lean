/- A clock of package sync in memory. -/
import Derived.Test.YtfeoppbincldfaaPaChk
namespace Go.Proofs.Ytfeoppbincldfaa
open Go.RowKit Go.Joins

structure CS where
  dom : Int
  own : Bool
  known : Bool
  here : Int
  there : Int
  rate : Int
  opn : Bool
  seq : Int
  src : Int
  came : Int
def crow (s : CS) : Array Value := #[.int .i64 s.dom, .bool s.own, .bool s.known, .int .i64 s.here, .int .i64 s.there, .int .i64 s.rate, .bool s.opn, .int .i64 s.seq, .int .i64 s.src, .int .i64 s.came]
def Ck (w : World) (b : Nat) (s : CS) : Prop := w.heap[b]? = some (.cells (crow s) 124 (0, 0))
def LeaveC (b : Nat) (w : World) (s : CS) (w' : World) : Prop := Ck w' b s ∧ ButB b w w'
section
variable {w w' : World} {b : Nat} {s s' : CS}
theorem Ck.lt (h : Ck w b s) : b < w.heap.size := lt_of_heap h
theorem Ck.below (h : Ck w b s) (hb : Below w.heap.size w w') : Ck w' b s := (hb.block b h.lt).trans h
theorem Ck.alloc (h : Ck w b s) (o : Obj) : Ck (w.alloc o) b s := h.below (bAl (bRef w) o)
theorem Ck.fz (h : Ck w b s) (i : Nat) : w.frozen? ⟨b, i, none⟩ = false := frozen_of_row _ _ _ _ _ h
theorem Ck.c0 (h : Ck w b s) : w.cell? ⟨b, 0, none⟩ = some (.int .i64 s.dom) := cell_of_row w b 0 _ _ _ h
theorem Ck.c1 (h : Ck w b s) : w.cell? ⟨b, 1, none⟩ = some (.bool s.own) := cell_of_row w b 1 _ _ _ h
theorem Ck.c2 (h : Ck w b s) : w.cell? ⟨b, 2, none⟩ = some (.bool s.known) := cell_of_row w b 2 _ _ _ h
theorem Ck.c3 (h : Ck w b s) : w.cell? ⟨b, 3, none⟩ = some (.int .i64 s.here) := cell_of_row w b 3 _ _ _ h
theorem Ck.c4 (h : Ck w b s) : w.cell? ⟨b, 4, none⟩ = some (.int .i64 s.there) := cell_of_row w b 4 _ _ _ h
theorem Ck.c5 (h : Ck w b s) : w.cell? ⟨b, 5, none⟩ = some (.int .i64 s.rate) := cell_of_row w b 5 _ _ _ h
theorem Ck.c6 (h : Ck w b s) : w.cell? ⟨b, 6, none⟩ = some (.bool s.opn) := cell_of_row w b 6 _ _ _ h
theorem Ck.c7 (h : Ck w b s) : w.cell? ⟨b, 7, none⟩ = some (.int .i64 s.seq) := cell_of_row w b 7 _ _ _ h
theorem Ck.c8 (h : Ck w b s) : w.cell? ⟨b, 8, none⟩ = some (.int .i64 s.src) := cell_of_row w b 8 _ _ _ h
theorem Ck.c9 (h : Ck w b s) : w.cell? ⟨b, 9, none⟩ = some (.int .i64 s.came) := cell_of_row w b 9 _ _ _ h
theorem Ck.set (h : Ck w b s) (i : Nat) (x : Value) (he : (crow s).setIfInBounds i x = crow s') : Ck (w.setCell ⟨b, i, none⟩ x) b s' := by
  have := heap_setCell_same w b i _ _ x h
  rw [he] at this
  exact this
theorem Ck.but {c : Nat} (h : Ck w b s) (hb : ButB c w w') (hn : b ≠ c) : Ck w' b s := (hb.block b h.lt hn).trans h
theorem Ck.row (h : Ck w b s) {g : Nat} {cs old : Array Value} {fr : Nat × Nat} (hg : w.heap[g]? = some (.cells old 37 fr)) : Ck (w.setRow g cs) b s := by
  have hn : b ≠ g := fun e => by
    subst e
    have h2 := h
    unfold Ck at h2
    rw [hg] at h2
    injection h2 with h2
    injection h2 with _ h2
    exact absurd h2 (by decide)
  exact (setRow_off w g b cs hn).trans h
theorem Ck.drew (h : Ck w b s) : Ck w.drew b s := h
end
theorem load_opM (x : Operand) {o : Oper} (ho : o.op = .load 37 x) {a : Act} (g : Nat) (hx : a.eval x = .pointer (some ⟨g, 0, none⟩)) (cs : Array Value) (fr : Nat × Nat) (W : World) (hg : W.heap[g]? = some (.cells cs 37 fr)) (hs : cs.size = 16) : (execOp a.eval o).run Try.prog W = .ok (.value (.agg cs)) W := by
  have hl := run_loadVar_row (P := Try.prog) W g 37 37 cs fr _ hg Try.underlying37 rfl (by rw [hs]; kernel_rfl)
  unfold execOp
  simp only [ho, hx, Instr.loadAt, Instr.sureAddr, Sem.run_bind, Sem.run_pure, Result.andThen_ok, hl]
/-- A Sync. -/
def SynM (dom seq src port : Int) : Mg := ⟨0, dom, seq, src, port, 0, 0, 0, 0, 0, 0, 0, 0, 0, 0, []⟩
/-- A Follow. -/
def FolM (dom seq src port corr time rate : Int) : Mg := ⟨8, dom, seq, src, port, corr, time, 0, 0, rate, 0, 0, 0, 0, 0, []⟩
structure Hd (dom seq src port : Int) : Prop where
  d0 : 0 ≤ dom
  d1 : dom ≤ 127
  q0 : 0 ≤ seq
  q1 : seq ≤ 65535
  s0 : 0 ≤ src
  s1 : src ≤ 281474976710655
  p0 : 0 ≤ port
  p1 : port ≤ 65535
theorem syn_to {dom seq src port : Int} (w : World) (h : Hd dom seq src port) : ChkTo w (SynM dom seq src port) (.slice none 0 0) 0 := by
  obtain ⟨d0, d1, q0, q1, s0, s1, p0, p1⟩ := h
  have h := ChkTo.of (w := w) (m := SynM dom seq src port) (v := .slice none 0 0) ⟨in64_0, by show In64 dom; unfold In64; omega, by show In64 seq; unfold In64; omega, by show In64 src; unfold In64; omega, by show In64 port; unfold In64; omega, in64_0, in64_0, in64_0, in64_0, in64_0, in64_0, in64_0, in64_0, in64_0, in64_0, fun x hx => by simp [SynM] at hx⟩ (lnil w) (by simp [SynM])
  have e : (SynM dom seq src port).chk = 0 := by
    simp [SynM, Mg.chk, Mg.besB, Mg.bestB, Mg.ans, kindB, winB]
    omega
  rw [e] at h
  exact h
theorem fol_to {dom seq src port corr time rate : Int} (w : World) (h : Hd dom seq src port) (hc : In64 corr) (ht : In64 time) (hr : In64 rate) : ChkTo w (FolM dom seq src port corr time rate) (.slice none 0 0) 0 := by
  obtain ⟨d0, d1, q0, q1, s0, s1, p0, p1⟩ := h
  have h := ChkTo.of (w := w) (m := FolM dom seq src port corr time rate) (v := .slice none 0 0) ⟨⟨by show (-9223372036854775808 : Int) ≤ 8; decide, by show (8 : Int) < 9223372036854775808; decide⟩, by show In64 dom; unfold In64; omega, by show In64 seq; unfold In64; omega, by show In64 src; unfold In64; omega, by show In64 port; unfold In64; omega, hc, ht, in64_0, in64_0, hr, in64_0, in64_0, in64_0, in64_0, in64_0, fun x hx => by simp [FolM] at hx⟩ (lnil w) (by simp [FolM])
  have e : (FolM dom seq src port corr time rate).chk = 0 := by
    simp [FolM, Mg.chk, Mg.besB, Mg.bestB, Mg.ans, kindB, winB]
    omega
  rw [e] at h
  exact h

end Go.Proofs.Ytfeoppbincldfaa
