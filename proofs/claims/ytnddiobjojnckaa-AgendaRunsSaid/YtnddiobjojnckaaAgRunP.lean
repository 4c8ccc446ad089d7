/- AgendaRuns: the state of its great loop, and what each call does to it. -/
import Derived.Test.YtnddiobjojnckaaAgErase
import Derived.Test.YtnddiobjojnckaaFAgendaRuns
namespace Go.Proofs.Ytnddiobjojnckaa
open Go.RowKit Go.Joins

/-- The operation that is done now, in its box. -/
def OBox (W : World) (b : Nat) (k x y z : Int) : Prop := W.heap[b]? = some (.cells #[.int .i64 k, .int .i64 x, .int .i64 y, .int .i64 z] 28 (0, 0))
theorem OBox.kept {W W' : World} {b : Nat} {k x y z : Int} (h : OBox W b k x y z) (hk : AgI.KeptT AgI.K2 W W') : OBox W' b k x y z := hk _ _ h (fun cs t fr e => by injection e with _ e2 _; rw [← e2]; decide)
theorem OBox.cells {W : World} {b : Nat} {k x y z : Int} (h : OBox W b k x y z) : W.cell? ⟨b, 0, none⟩ = some (.int .i64 k) ∧ W.cell? ⟨b, 1, none⟩ = some (.int .i64 x) ∧ W.cell? ⟨b, 2, none⟩ = some (.int .i64 y) := ⟨cell_of_row _ _ _ _ _ _ h, cell_of_row _ _ _ _ _ _ h, cell_of_row _ _ _ _ _ _ h⟩
/-- What holds before each operation. -/
def RunSt (w : World) (B g i : Nat) (now put : Int) (L : List It) (v4 : Value) (wr : World) : Prop :=
  RS now put L ∧ 0 ≤ put ∧ put ≤ (i : Int) ∧ AgI.St B wr g now put L ∧ Its w.heap.size wr v4 L ∧ Below w.heap.size w wr
theorem RunSt.st {w : World} {B g i : Nat} {now put : Int} {L : List It} {v4 : Value} {wr : World} (h : RunSt w B g i now put L v4 wr) : AgI.St B wr g now put L := h.2.2.2.1
def RunRel (w : World) (B g n : Nat) (v4 v5 v6 v7 : Value) (wr : World) : Prop :=
  ∃ (i : Nat) (now put : Int) (L : List It), i ≤ n ∧ i ≤ 120 ∧ v5 = .int .i64 now ∧ v6 = .int .i64 put ∧ v7 = .int .i64 (i : Int) ∧ RunSt w B g i now put L v4 wr
theorem run_first {w w1 w2 : World} {g : Nat} (h : AgI.St w1.heap.size w2 g 0 0 []) (hb : Below w.heap.size w w2) : RunSt w w1.heap.size g 0 0 0 [] (.slice (some ⟨w2.heap.size, 0, none⟩) 0 0) (w2.alloc (.cells #[] 33)) :=
  ⟨.start, by omega, by omega, h.below (AgI.bAl (AgI.bRef w2) _), ownsRow_le (World.ownsRow_made w2 #[] 0 (Nat.le_refl _) (Nat.zero_le _) rfl) hb.size, AgI.bAl hb _⟩
theorem run_far {w : World} {B g i : Nat} {now put : Int} {L : List It} {v4 : Value} {wr w' : World} (h : RunSt w B g i now put L v4 wr) (hb : Below wr.heap.size wr w') : RunSt w B g i now put L v4 w' := by
  obtain ⟨h1, h2, h3, h4, h5, h6⟩ := h
  exact ⟨h1, h2, h3, h4.below hb, h5.below hb, AgI.bTr h6 hb⟩

theorem run_up {w : World} {B g i : Nat} {now put : Int} {L : List It} {v4 : Value} {wr : World} (h : RunSt w B g i now put L v4 wr) : RunSt w B g (i + 1) now put L v4 wr := ⟨h.1, h.2.1, by have := h.2.2.1; omega, h.2.2.2⟩
theorem len_at {B : Nat} {w : World} {g m : Nat} {now last : Int} {S : List It} (h : AgI.St B w g now last S) (hm : S.length = m) : Calls Try.prog 11 #[.pointer (some ⟨g, 0, none⟩)] w fun e w' => e = .returned (.int .i64 (m : Int)) ∧ Below w.heap.size w w' := hm ▸ AgI.len_st h
theorem put_early_st {B : Nat} {w : World} {g : Nat} {now last : Int} {S : List It} (h : AgI.St B w g now last S) (x y : Int) (hx : x ≤ 1099511627776) (hy : x < now) : Calls Try.prog 6 #[.pointer (some ⟨g, 0, none⟩), .int .i64 x, .int .i64 y] w fun e w' => e = .returned (.tuple #[.int .i64 0, .int .i64 31]) ∧ Below w.heap.size w w' := by
  obtain ⟨l, h1, _⟩ := h
  exact AgI.put_early h1 x y hx hy
/-- Behind Put, ahead of the law's own append. -/
def PutMid (w : World) (B g i : Nat) (now put : Int) (L : List It) (x y : Int) (v4 : Value) (w3 : World) : Prop :=
  RS now (put + 1) (L ++ [(x, put + 1, y)]) ∧ 0 ≤ put ∧ put ≤ (i : Int) ∧ AgI.St B w3 g now (put + 1) (L ++ [(x, put + 1, y)]) ∧ Its w.heap.size w3 v4 L ∧ Below w.heap.size w w3
theorem put_mid {w wr w3 : World} {B g i : Nat} {now put x y : Int} {L : List It} {v4 : Value} {o : Obj} (h : RunSt w B g i now put L v4 wr) (hB : w.heap.size ≤ B) (hx : x ≤ 1099511627776) (hy : now ≤ x) (hst : AgI.St B w3 g now (put + 1) (L ++ [(x, put + 1, y)])) (hb : Below B (wr.alloc o) w3) (hk : AgI.KeptT AgI.K2 (wr.alloc o) w3) : PutMid w B g i now put L x y v4 w3 := by
  obtain ⟨h1, h2, h3, h4, h5, h6⟩ := h
  exact ⟨h1.add hy hx, h2, h3, hst, (h5.below (AgI.bAl (AgI.bRef wr) o)).kept hk, (AgI.bAl h6 o).trans (hb.mono hB)⟩
theorem put_end {w w3 w5 : World} {B g i m : Nat} {now put x y : Int} {L : List It} {v4 v5 : Value} (h : PutMid w B g i now put L x y v4 w3) (hm : L.length = m)
    (h1 : w5.ownsRow w.heap.size 33 3 v5 (m + 1) (iv3 L ++ one3 (x, put + 1, y))) (hg : (w3.alloc (.cells (one3 (x, put + 1, y)).toArray 33)).grownBy w5 v4.ownBlock) :
    ∃ p5 m5 c5, v5 = .slice p5 m5 c5 ∧ (L ++ [(x, put + 1, y)]).length = m5 ∧ RunSt w B g (i + 1) now (put + 1) (L ++ [(x, put + 1, y)]) (.slice p5 m5 c5) w5 := by
  obtain ⟨k1, k2, k3, k4, k5, k6⟩ := h
  have hits : Its w.heap.size w5 v5 (L ++ [(x, put + 1, y)]) := by
    unfold Its
    rw [List.length_append, hm, iv3_app]
    exact h1
  obtain ⟨p5, c5, rfl⟩ := hits.form
  have k5' := k5.below (AgI.bAl (AgI.bRef w3) (.cells (one3 (x, put + 1, y)).toArray 33))
  refine ⟨p5, _, c5, rfl, rfl, k1, by omega, by omega, st_row (k4.below (AgI.bAl (AgI.bRef w3) _)) k5' hg, hits, (AgI.bAl k6 _).trans ⟨hg.os, hg.tape, hg.output, hg.size, fun k hk => hg.block k (by have := k6.size; simp; omega) (fun e => ?_)⟩⟩
  rcases k5.2 with ⟨rfl, _⟩ | ⟨r, cap, cur, rfl, hb, _⟩
  · simp [Value.ownBlock] at e
  · simp [Value.ownBlock] at e
    omega
theorem its_row {w w3 : World} {B g i m : Nat} {now put x y : Int} {L : List It} {v4 : Value} {o : Obj} (h : PutMid w B g i now put L x y v4 w3) (hm : L.length = m) : (w3.alloc o).ownsRow w.heap.size 33 3 v4 m (iv3 L) := by
  have := h.2.2.2.2.1.below (AgI.bAl (AgI.bRef w3) o)
  unfold Its at this
  rw [hm] at this
  exact this
theorem hnew3 (w : World) (s : It) : ∀ j u, (one3 s)[j]? = some u → (w.alloc (.cells (one3 s).toArray 33)).cell? ((⟨w.heap.size, 0, none⟩ : Addr).add j) = some u := fun j u hu => by
  have hg := heap_alloc_new w (.cells (one3 s).toArray 33)
  rw [add_flat4, Nat.zero_add, cell_of_row _ _ _ _ _ _ hg]
  simpa using hu
theorem hone3 (s : It) : ∀ u ∈ one3 s, u.oneCell' = true := by
  intro u hu
  simp [one3] at hu
  rcases hu with rfl | rfl | rfl <;> rfl
/-- Behind a call that took one away: the row has it still. -/
def RunMid (w : World) (B g i : Nat) (now put : Int) (L L' : List It) (v4 : Value) (W : World) : Prop :=
  RS now put L' ∧ 0 ≤ put ∧ put ≤ (i : Int) ∧ AgI.St B W g now put L' ∧ Its w.heap.size W v4 L ∧ Below w.heap.size w W
section
variable {w W W' : World} {B g i b : Nat} {now put x : Int} {L L' : List It} {v4 v' : Value}
theorem RunSt.its (h : RunSt w B g i now put L v4 W) : Its w.heap.size W v4 L := h.2.2.2.2.1
theorem RunSt.size (h : RunSt w B g i now put L v4 W) : w.heap.size ≤ W.heap.size := h.2.2.2.2.2.size
theorem RunMid.its (h : RunMid w B g i now put L L' v4 W) : Its w.heap.size W v4 L := h.2.2.2.2.1
theorem RunMid.size (h : RunMid w B g i now put L L' v4 W) : w.heap.size ≤ W.heap.size := h.2.2.2.2.2.size
theorem RunMid.out (h : RunMid w B g i now put L L' v4 W) (hb : Below W.heap.size W W') (hr : Its W.heap.size W' v' L') : RunSt w B g i now put L' v' W' := by
  obtain ⟨h1, h2, h3, h4, h5, h6⟩ := h
  exact ⟨h1, h2, h3, h4.below hb, hr.mono h6.size, AgI.bTr h6 hb⟩
theorem RunMid.below (h : RunMid w B g i now put L L' v4 W) (hb : Below W.heap.size W W') : RunMid w B g i now put L L' v4 W' := by
  obtain ⟨h1, h2, h3, h4, h5, h6⟩ := h
  exact ⟨h1, h2, h3, h4.below hb, h5.below hb, AgI.bTr h6 hb⟩
theorem drop_no (h : RunSt w B g i now put L v4 W) (hB : w.heap.size ≤ B) (hl : L.length ≤ 120) (hn : ∀ j, j < L.length → (it L j).2.1 ≠ x) : Calls Try.prog 7 #[.pointer (some ⟨g, 0, none⟩), .int .i64 x] W fun e w' => e = .returned (.bool false) ∧ RunSt w B g i now put L v4 w' := by
  refine (AgI.drop_st h.st (by omega) x).mono fun e w' hh => ?_
  obtain ⟨k1, k2, ⟨rfl, _, k3⟩ | ⟨_, m, S', k3, k4, _⟩⟩ := hh
  · obtain ⟨h1, h2, h3, h4, h5, h6⟩ := h
    exact ⟨rfl, h1, h2, h3, k3, h5.kept k2, h6.trans (k1.mono hB)⟩
  · obtain ⟨j, hj, e⟩ := mem_it (k4.mem_iff.1 List.mem_cons_self)
    subst e
    exact absurd k3 (hn j hj)
theorem drop_yes (h : RunSt w B g i now put L v4 W) (hB : w.heap.size ≤ B) (hl : L.length ≤ 120) (hb : b < L.length) (hx : (it L b).2.1 = x) : Calls Try.prog 7 #[.pointer (some ⟨g, 0, none⟩), .int .i64 x] W fun e w' => e = .returned (.bool true) ∧ RunMid w B g i now put L (L.eraseIdx b) v4 w' := by
  refine (AgI.drop_st h.st (by omega) x).mono fun e w' hh => ?_
  obtain ⟨k1, k2, ⟨_, k3, _⟩ | ⟨rfl, m, S', k3, k4, k5⟩⟩ := hh
  · exact absurd hx (k3 _ (it_mem hb))
  · obtain ⟨h1, h2, h3, h4, h5, h6⟩ := h
    exact ⟨rfl, h1.erase b, h2, h3, k5.perm (h1.dropped k3 k4 hb hx), h5.kept k2, h6.trans (k1.mono hB)⟩
theorem wait_no (h : RunSt w B g i now put [] v4 W) (hB : w.heap.size ≤ B) : Calls Try.prog 8 #[.pointer (some ⟨g, 0, none⟩), .int .i64 x] W fun e w' => e = .returned (.int .i64 (max now (min x 1099511627776))) ∧ RunSt w B g i (max now (min x 1099511627776)) put [] v4 w' := by
  refine (AgI.wait_st h.st x).mono fun e w' hh => ?_
  obtain ⟨y, rfl, k1, k2, k3, ⟨_, rfl⟩ | ⟨m, ⟨hm, _⟩, _⟩⟩ := hh
  · obtain ⟨h1, h2, h3, h4, h5, h6⟩ := h
    have a := h1.nowTop
    exact ⟨rfl, h1.wait (by omega) (by omega) (fun s hs => by simp at hs), h2, h3, k1, h5.kept k3, h6.trans (k2.mono hB)⟩
  · simp at hm
theorem wait_yes (h : RunSt w B g i now put L v4 W) (hB : w.heap.size ≤ B) (hb : Best L L.length b) : Calls Try.prog 8 #[.pointer (some ⟨g, 0, none⟩), .int .i64 x] W fun e w' => e = .returned (.int .i64 (max now (min (min x 1099511627776) (it L b).1))) ∧ RunSt w B g i (max now (min (min x 1099511627776) (it L b).1)) put L v4 w' := by
  refine (AgI.wait_st h.st x).mono fun e w' hh => ?_
  obtain ⟨y, rfl, k1, k2, k3, ⟨h0, _⟩ | ⟨m, hm, rfl⟩⟩ := hh
  · rw [h0] at hb
    exact absurd hb.1 (by simp)
  · obtain ⟨h1, h2, h3, h4, h5, h6⟩ := h
    obtain rfl := h1.first_only hm (h1.first hb)
    have a := h1.nowTop
    refine ⟨rfl, h1.wait (by omega) (by omega) (fun s hs => ?_), h2, h3, k1, h5.kept k3, h6.trans (k2.mono hB)⟩
    obtain ⟨j, hj, rfl⟩ := mem_it hs
    have := hb.2.1 j hj
    have := (h1.ge _ hs).1
    omega
theorem next_no {bb : Nat} {kk y z : Int} (h : RunSt w B g i now put L v4 W) (ho : OBox W bb kk x y z) (hn : ∀ b, Best L L.length b → x < (it L b).1) (hx : L.length = 0 ∨ ∃ b, Best L L.length b) : Calls Try.prog 9 #[.pointer (some ⟨g, 0, none⟩), .int .i64 x] W fun e w' => e = .returned (.tuple #[.int .i64 0, .int .i64 0, .int .i64 0, .bool false]) ∧ RunSt w B g i now put L v4 w' ∧ OBox w' bb kk x y z := by
  refine (AgI.nextNone_st h.st x (fun m hm => ?_)).mono fun e w' hh => ⟨hh.1, run_far h hh.2, ho.kept (AgI.KeptT.of_below hh.2)⟩
  rcases hx with h0 | ⟨b, hb⟩
  · rw [List.eq_nil_of_length_eq_zero h0] at hm
    exact absurd hm.1 (by simp)
  · rw [h.1.first_only hm (h.1.first hb)]
    exact hn b hb
theorem next_yes {bb : Nat} {kk y z : Int} (h : RunSt w B g i now put L v4 W) (ho : OBox W bb kk x y z) (hB : w.heap.size ≤ B) (hl : L.length ≤ 120) (hb : Best L L.length b) (hx : (it L b).1 ≤ x) : Calls Try.prog 9 #[.pointer (some ⟨g, 0, none⟩), .int .i64 x] W fun e w' => e = .returned (.tuple #[.int .i64 (it L b).1, .int .i64 (it L b).2.1, .int .i64 (it L b).2.2, .bool true]) ∧ RunMid w B g i (it L b).1 put L (L.eraseIdx b) v4 w' ∧ OBox w' bb kk x y z := by
  refine (AgI.next_st h.st x (by have := hb.1; omega) (by omega) (fun m hm => by rw [h.1.first_only hm (h.1.first hb)]; exact hx)).mono fun e w' hh => ?_
  obtain ⟨m, S', rfl, hm, _, k3, k4, k5, k6⟩ := hh
  obtain ⟨h1, h2, h3, h4, h5, h6⟩ := h
  obtain rfl := h1.first_only hm (h1.first hb)
  exact ⟨rfl, ⟨h1.next hb, h2, h3, k4.perm (h1.dropped rfl k3 hb.1 rfl), h5.kept k6, h6.trans (k5.mono hB)⟩, ho.kept k6⟩
end

end Go.Proofs.Ytnddiobjojnckaa
