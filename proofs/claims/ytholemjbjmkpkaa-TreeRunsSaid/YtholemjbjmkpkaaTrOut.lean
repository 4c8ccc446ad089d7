/- Package tree: Out. -/
import Derived.Test.YtholemjbjmkpkaaTrIn
namespace Go.Proofs.Ytholemjbjmkpkaa
open Go.RowKit Go.Joins Go.Deep

def ZC : Array Value := #[.int .i64 0, .int .i64 0, .int .i64 0, .int .i64 0, .int .i64 0, .int .i64 0, .int .i64 0, .int .i64 0, .int .i64 0, .int .i64 0, .int .i64 0, .int .i64 0, .int .i64 0, .int .i64 0, .int .i64 0, .slice none 0 0]
theorem Try.builtZ : Try.prog.built 58 [] = some #[.int .i64 0, .int .i64 0, .int .i64 0, .int .i64 0, .int .i64 0, .int .i64 0, .int .i64 0, .int .i64 0, .int .i64 0, .int .i64 0, .int .i64 0, .int .i64 0, .int .i64 0, .int .i64 0, .int .i64 0, .slice none 0 0] := by kernel_rfl
theorem allocM {a : Act} {o : Oper} (ho : o.op = .alloc 58) (W : World) : (execOp a.eval o).run Try.prog W = .ok (.value (.pointer (some ⟨W.heap.size, 0, none⟩))) (W.alloc (.cells #[.int .i64 0, .int .i64 0, .int .i64 0, .int .i64 0, .int .i64 0, .int .i64 0, .int .i64 0, .int .i64 0, .int .i64 0, .int .i64 0, .int .i64 0, .int .i64 0, .int .i64 0, .int .i64 0, .int .i64 0, .slice none 0 0] 58)) := by
  unfold execOp
  simp only [ho]
  kernel_rfl
theorem storeNewM {a : Act} {o : Oper} {W : World} (x y : Operand) (ho : o.op = .store 58 x y) {g : Nat} (hg : g = W.heap.size) (cs : Array Value) (hx : a.eval x = .pointer (some ⟨g, 0, none⟩)) (hy : a.eval y = .agg cs) (hs : cs.size = 16) (h1 : cs.all (·.oneCell') = true) :
    (execOp a.eval o).run Try.prog (W.alloc (.cells #[.int .i64 0, .int .i64 0, .int .i64 0, .int .i64 0, .int .i64 0, .int .i64 0, .int .i64 0, .int .i64 0, .int .i64 0, .int .i64 0, .int .i64 0, .int .i64 0, .int .i64 0, .int .i64 0, .int .i64 0, .slice none 0 0] 58)) = .ok .skip (W.alloc (.cells cs 58)) := by
  subst hg
  have k := run_storeVar_row (P := Try.prog) (W.alloc (.cells #[.int .i64 0, .int .i64 0, .int .i64 0, .int .i64 0, .int .i64 0, .int .i64 0, .int .i64 0, .int .i64 0, .int .i64 0, .int .i64 0, .int .i64 0, .int .i64 0, .int .i64 0, .int .i64 0, .int .i64 0, .slice none 0 0] 58)) W.heap.size 58 58 _ cs (heap_alloc_new W _) (by rw [hs]; kernel_rfl) (by rw [hs]; rfl) h1
  rw [setRow_newM] at k
  unfold execOp
  simp only [ho, hx, hy, Instr.storeAt, Instr.sureAddr, Sem.run_bind, Sem.run_pure, Result.andThen_ok, k]
/-- The answer's box, the chosen one's, and the tree, in a world that came of w. -/
structure OS (w : World) (b g : Nat) (t : Ts) (c : Vc) (q : Nat) (W : World) : Prop where
  bel : Below w.heap.size w W
  res : W.heap[w.heap.size]? = some (.cells #[.int .i64 0, .int .i64 0, .int .i64 0, .int .i64 0, .int .i64 0, .int .i64 0, .int .i64 0, .int .i64 0, .int .i64 0, .int .i64 0, .int .i64 0, .int .i64 0, .int .i64 0, .int .i64 0, .int .i64 0, .slice none 0 0] 58 (0, 0))
  vb : W.heap[q]? = some (.cells (VC c) 25 (0, 0))
  t0 : W.cell? ⟨b, 0, none⟩ = some (.int .i64 t.dom)
  t4 : W.cell? ⟨b, 4, none⟩ = some (.int .i64 t.own.id)
  t6 : W.cell? ⟨b, 6, none⟩ = some (.slice (some ⟨g, 0, none⟩) t.n t.n)
section
variable {w W W' : World} {b g : Nat} {t : Ts} {c : Vc} {q : Nat}
theorem OS.below (h : OS w b g t c q W) (hb : Below W.heap.size W W') : OS w b g t c q W' :=
  ⟨bTr h.bel hb, (hb.block _ (lt_of_heap h.res)).trans h.res, (hb.block _ (lt_of_heap h.vb)).trans h.vb, (hb.cell (block_lt_cell h.t0)).trans h.t0, (hb.cell (block_lt_cell h.t4)).trans h.t4, (hb.cell (block_lt_cell h.t6)).trans h.t6⟩
theorem OS.drew (h : OS w b g t c q W) : OS w b g t c q W.drew := h.below ⟨rfl, rfl, rfl, Nat.le_refl _, fun _ _ => rfl⟩
theorem OS.v4 (h : OS w b g t c q W) : W.cell? ⟨q, 4, none⟩ = some (.int .i64 c.steps) := cell_of_row _ _ 4 _ _ _ h.vb
theorem OS.v7 (h : OS w b g t c q W) : W.cell? ⟨q, 7, none⟩ = some (.int .i64 c.at_) := cell_of_row _ _ 7 _ _ _ h.vb
/-- A new box turns. -/
theorem OS.setc (h : OS w b g t c q W) {qm : Nat} (hq : w.heap.size < qm ∧ qm ≠ q ∧ qm ≠ b) (i : Nat) (v : Value) : OS w b g t c q (W.setCell ⟨qm, i, none⟩ v) := by
  obtain ⟨h1, h2, h3⟩ := hq
  have key : ∀ k, k ≠ qm → (W.setCell ⟨qm, i, none⟩ v).heap[k]? = W.heap[k]? := fun k hk => heap_setCell_other W ⟨qm, i, none⟩ k v hk
  exact ⟨bSet h.bel _ (by show w.heap.size ≤ qm; omega) _, (key _ (by omega)).trans h.res, (key _ (fun e => h2 e.symm)).trans h.vb, (World.cell?_of_block (key _ (fun e => h3 e.symm))).trans h.t0, (World.cell?_of_block (key _ (fun e => h3 e.symm))).trans h.t4, (World.cell?_of_block (key _ (fun e => h3 e.symm))).trans h.t6⟩
end
structure OP (w : World) (b g : Nat) (t : Ts) (c : Vc) (q j : Nat) (u : Value) (W : World) : Prop where
  os : OS w b g t c q W
  pth : W.cell? ⟨g, j * 12 + 11, none⟩ = some u
theorem OP.set {w W : World} {b g : Nat} {t : Ts} {c : Vc} {q j : Nat} {u : Value} (h : OP w b g t c q j u W) {qm : Nat} (hq : (w.heap.size < qm ∧ qm ≠ q ∧ qm ≠ b) ∧ qm ≠ g) (i : Nat) (v : Value) : OP w b g t c q j u (W.setCell ⟨qm, i, none⟩ v) :=
  ⟨h.os.setc hq.1 i v, (World.cell?_of_block (heap_setCell_other W ⟨qm, i, none⟩ g v (fun e => hq.2 e.symm))).trans h.pth⟩
theorem OwnR.setc {α : Type} {C : α → Array Value} {e : TypeId} {m B B' : Nat} {w : World} {v : Value} {L : List α} (h : OwnR C e m B w v L) {g : Nat} {cs : Array Value} {t : TypeId} (hg : w.heap[g]? = some (.cells cs t (0, 0))) (ht : t ≠ e) (i : Nat) (x : Value) (hB : B' ≤ B) : OwnR C e m B' (w.setCell ⟨g, i, none⟩ x) v L := by
  refine ⟨h.1, ?_⟩
  rcases h.2 with h | ⟨b, cap, cur, e1, e2, e3, e4⟩
  · exact .inl h
  · exact .inr ⟨b, cap, cur, e1, Nat.le_trans hB e2, (heap_setCell_other w ⟨g, i, none⟩ b x (neq_tag e3 hg (fun e => ht e.symm))).trans e3, e4⟩
theorem concat_arg {w : World} {u : Value} {xs : List Int} (hu : LArg w u xs) (id : Int) (hx : xs.length ≤ 1000 ∧ In64 id) : Calls Try.prog 37 #[.slice (some ⟨w.heap.size + 1, 0, none⟩) 2 2] ((w.alloc (.cells #[.int .i64 id] 3)).alloc (.cells #[u, .slice (some ⟨w.heap.size, 0, none⟩) 1 1] 40)) fun e w' => ∃ v, e = .returned v ∧ OwnR C1 3 1 ((w.alloc (.cells #[.int .i64 id] 3)).alloc (.cells #[u, .slice (some ⟨w.heap.size, 0, none⟩) 1 1] 40)).heap.size w' v (xs ++ [id]) ∧ Below ((w.alloc (.cells #[.int .i64 id] 3)).alloc (.cells #[u, .slice (some ⟨w.heap.size, 0, none⟩) 1 1] 40)).heap.size ((w.alloc (.cells #[.int .i64 id] 3)).alloc (.cells #[u, .slice (some ⟨w.heap.size, 0, none⟩) 1 1] 40)) w' := by
  have h2 : IRow ((w.alloc (.cells #[.int .i64 id] 3)).alloc (.cells #[u, .slice (some ⟨w.heap.size, 0, none⟩) 1 1] 40)) w.heap.size [id] := ⟨_, ((bAl (bRef _) _).block _ (by simp)).trans (heap_alloc_new w _)⟩
  exact concat_any (h := w.heap.size + 1) ⟨heap_alloc2_new w _ _, hu.below (bAl (bAl (bRef w) _) _), h2.arg (fun x hx' => by simp at hx'; subst hx'; exact hx.2) (Nat.le_refl 1)⟩ hx.1 (by simp) (by simp)
/-- What Out answers. -/
def Ts.outM (t : Ts) (at_ seq now : Int) : Mg := ⟨11, t.dom, seq, t.own.id, at_, 0, 0, 0, 0, 0, (t.best now).r.one, (t.best now).r.cls, (t.best now).r.two, (t.best now).r.id, (if (t.best now).at_ = -1 then 0 else (t.best now).steps + 1), (if (t.best now).at_ = -1 then [] else (t.ports (t.best now).at_.toNat).path) ++ [t.own.id]⟩
def Ts.outB (t : Ts) (at_ seq now : Int) : Bool := t.has at_ && (roleV t.own.id (t.best now) at_ (t.F now at_.toNat) == 1 && decide ((t.outM at_ seq now).chk = 0))
/-- What its numbers can be, too. -/
structure Ts.Fit (t : Ts) : Prop where
  dom : In64 t.dom
  own : In64 t.own.one ∧ In64 t.own.cls ∧ In64 t.own.two ∧ In64 t.own.id
  vecs : ∀ k, k < t.n → In64 (t.ports k).vec.r.one ∧ In64 (t.ports k).vec.r.cls ∧ In64 (t.ports k).vec.r.two ∧ In64 (t.ports k).vec.r.id
  steps : ∀ k, k < t.n → 0 ≤ (t.ports k).vec.steps ∧ (t.ports k).vec.steps ≤ 255
  plen : ∀ k, k < t.n → (t.ports k).path.length ≤ 40
theorem best_fit {t : Ts} (hf : t.Fit) (now : Int) : (In64 (t.best now).r.one ∧ In64 (t.best now).r.cls ∧ In64 (t.best now).r.two ∧ In64 (t.best now).r.id) ∧ (0 ≤ (t.best now).steps ∧ (t.best now).steps ≤ 255) ∧ ((t.best now).at_ = -1 ∨ ∃ j : Nat, j < t.n ∧ (t.best now).at_ = (j : Int)) := by
  unfold Ts.best
  rcases chs_inv t.own (t.F now) t.n with ⟨_, h⟩ | ⟨⟨j, hj, _, h⟩, _⟩
  · rw [h]
    exact ⟨hf.own, ⟨by show (0 : Int) ≤ 0; omega, by show (0 : Int) ≤ 255; omega⟩, .inl rfl⟩
  · rw [h]
    exact ⟨hf.vecs j hj, hf.steps j hj, .inr ⟨j, hj, rfl⟩⟩
theorem wf_ann {t : Ts} (hf : t.Fit) {p : Pri} (hp : In64 p.one ∧ In64 p.cls ∧ In64 p.two ∧ In64 p.id) {at_ seq st : Int} (hi : In64 at_ ∧ In64 seq) (hs : In64 st) {xs : List Int} (hx : ∀ x ∈ xs, In64 x) : Mg.Wf ⟨11, t.dom, seq, t.own.id, at_, 0, 0, 0, 0, 0, p.one, p.cls, p.two, p.id, st, xs⟩ := by
  have z0 : In64 0 := ⟨by decide, by decide⟩
  exact ⟨⟨by show (-9223372036854775808 : Int) ≤ 11; omega, by show (11 : Int) < 9223372036854775808; omega⟩, hf.dom, hi.2, hf.own.2.2.2, hi.1, z0, z0, z0, z0, z0, hp.1, hp.2.1, hp.2.2.1, hp.2.2.2, hs, hx⟩
/-- What a call of Out leaves. -/
def OutQ (w : World) (ob : Bool) (om : Mg) (e : Ending) (w' : World) : Prop := Below w.heap.size w w' ∧ ((ob = false ∧ e = .returned (.tuple #[.agg #[.int .i64 0, .int .i64 0, .int .i64 0, .int .i64 0, .int .i64 0, .int .i64 0, .int .i64 0, .int .i64 0, .int .i64 0, .int .i64 0, .int .i64 0, .int .i64 0, .int .i64 0, .int .i64 0, .int .i64 0, .slice none 0 0], .bool false])) ∨ (ob = true ∧ ∃ u, e = .returned (.tuple #[.agg (MC om u), .bool true]) ∧ OwnR C1 3 1 w.heap.size w' u om.path))
set_option maxRecDepth 20000 in
set_option maxHeartbeats 8000000 in
theorem out_any {w : World} {b g : Nat} {t : Ts} (h : Tr w b g t) (hok : t.Ok) (hf : t.Fit) (at_ seq now : Int) (hat : In64 at_) (hseq : In64 seq) (hnow : In64 now) : Calls Try.prog 24 #[.pointer (some ⟨b, 0, none⟩), .int .i64 at_, .int .i64 seq, .int .i64 now] w (OutQ w (t.outB at_ seq now) (t.outM at_ seq now)) := by
  obtain ⟨us, hi⟩ := h
  have HT := Lib.hid hi
  have HBe := Lib.hid (best_any (w := w.alloc (.cells #[.int .i64 0, .int .i64 0, .int .i64 0, .int .i64 0, .int .i64 0, .int .i64 0, .int .i64 0, .int .i64 0, .int .i64 0, .int .i64 0, .int .i64 0, .int .i64 0, .int .i64 0, .int .i64 0, .int .i64 0, .slice none 0 0] 58)) ⟨us, hi.below (bAl (bRef w) _)⟩ hok now hnow)
  have HHs := Lib.hid (fun W (hb : Below w.heap.size w W) => has_any (⟨us, hi.below hb⟩ : Tr W b g t) at_)
  obtain ⟨hr, hst, hca⟩ := best_fit hf now
  have HRv : Hid (∀ k : Nat, k < t.n → (IC (t.roles now))[k]? = some (.int .i64 (roleV t.own.id (t.best now) k (t.F now k)))) := Lib.hid (fun k hk => rolesL_at _ _ _ _ _ hk)
  have hrl : (t.roles now).length = t.n := rolesL_len _ _ _ _
  have HOB : Hid (t.outB at_ seq now = (t.has at_ && (roleV t.own.id (t.best now) at_ (t.F now at_.toNat) == 1 && decide ((t.outM at_ seq now).chk = 0)))) := Lib.hid rfl
  have hom : t.outM at_ seq now = ⟨11, t.dom, seq, t.own.id, at_, 0, 0, 0, 0, 0, (t.best now).r.one, (t.best now).r.cls, (t.best now).r.two, (t.best now).r.id, (if (t.best now).at_ = -1 then 0 else (t.best now).steps + 1), (if (t.best now).at_ = -1 then [] else (t.ports (t.best now).at_.toNat).path) ++ [t.own.id]⟩ := rfl
  have HOM := Lib.hid hom
  unfold Chosen at HBe
  rw [hrl] at HBe
  clear hom
  generalize t.outB at_ seq now = ob at *
  generalize t.outM at_ seq now = om at *
  generalize t.roles now = rl at *
  have HCa := Lib.hid hca
  have HFit := Lib.hid hf
  have HOk := Lib.hid hok
  have HIn := Lib.hid (show In64 at_ ∧ In64 seq from ⟨hat, hseq⟩)
  have HFr := Lib.hid hr
  have HFs := Lib.hid hst
  generalize hF : t.F now = ff at *
  generalize t.best now = c at *
  clear hF hf hok hat hseq hnow hr hst hca hrl hi
  rw [show VC c = #[.int .i64 c.r.one, .int .i64 c.r.cls, .int .i64 c.r.two, .int .i64 c.r.id, .int .i64 c.steps, .int .i64 c.from_, .int .i64 c.port, .int .i64 c.at_] from rfl] at HBe
  have hz0 : (w.alloc (.cells #[.int .i64 0, .int .i64 0, .int .i64 0, .int .i64 0, .int .i64 0, .int .i64 0, .int .i64 0, .int .i64 0, .int .i64 0, .int .i64 0, .int .i64 0, .int .i64 0, .int .i64 0, .int .i64 0, .int .i64 0, .slice none 0 0] 58)).heap.size = w.heap.size + 1 := by simp
  rw [hz0] at HBe
  clear hz0
  cases ha : t.has at_ with
  | false =>
    obtain rfl : ob = false := by rw [HOB.out, ha]; rfl
    rw [ha] at HHs
    clear ha
    go_enter Try.func24, Try.ntmps24
    go_wp2_with (first
      | (go_at_call 23; (with_reducible refine HBe.out.mono ?_); rintro e w1 ⟨gr, rfl, hgr, hrow, hb⟩; have HB1 := Lib.hid (bTr (bAl (bRef w) _) (hb.mono (by simp))); have HR1 := Lib.hid ((hb.block w.heap.size (by omega)).trans (heap_alloc_new w _)); clear hb hrow hgr)
      | (go_at_call 36; (with_reducible refine (HHs.out _ (bAl HB1.out _)).mono ?_); rintro e w2 ⟨rfl, rfl⟩)
      | ((with_reducible refine at_buildM ?_); refine wpList_buildG rfl _ _ rfl #[.int .i64 0, .int .i64 0, .int .i64 0, .int .i64 0, .int .i64 0, .int .i64 0, .int .i64 0, .int .i64 0, .int .i64 0, .int .i64 0, .int .i64 0, .int .i64 0, .int .i64 0, .int .i64 0, .int .i64 0, .slice none 0 0] (by simp only [List.map_toArray, List.map_nil]; exact Try.builtZ) ?_)
      | ((with_reducible refine at_storeM ?_); refine wpList_store_row rfl _ _ _ rfl _ #[.int .i64 0, .int .i64 0, .int .i64 0, .int .i64 0, .int .i64 0, .int .i64 0, .int .i64 0, .int .i64 0, .int .i64 0, .int .i64 0, .int .i64 0, .int .i64 0, .int .i64 0, .int .i64 0, .int .i64 0, .slice none 0 0] rfl rfl _ _ (((bAl (bRef w1) _).block _ (lt_of_heap HR1.out)).trans HR1.out) (by kernel_rfl) rfl (by simp [Value.oneCell']) ?_))
    refine bodyW2 rfl w.heap.size #[.int .i64 0, .int .i64 0, .int .i64 0, .int .i64 0, .int .i64 0, .int .i64 0, .int .i64 0, .int .i64 0, .int .i64 0, .int .i64 0, .int .i64 0, .int .i64 0, .int .i64 0, .int .i64 0, .int .i64 0, .slice none 0 0] (.bool false) _ rfl rfl (setRow_heap _ _ _ _ _ _ (((bAl (bRef w1) _).block _ (lt_of_heap HR1.out)).trans HR1.out)) Try.underlying58 rfl (by kernel_rfl) rfl ?_
    exact ⟨bRow (bAl HB1.out _) _ (Nat.le_refl _) _, .inl ⟨rfl, rfl⟩⟩
  | true =>
    have ha' := ha
    unfold Ts.has at ha'
    simp only [Bool.and_eq_true, decide_eq_true_eq] at ha'
    obtain ⟨k, rfl⟩ : ∃ k : Nat, at_ = (k : Int) := ⟨at_.toNat, by omega⟩
    rw [ha] at HHs
    rw [ha, Bool.true_and, Int.toNat_natCast] at HOB
    have hk : k < t.n := by omega
    have HKt := Lib.hid hk
    have cr := HRv.out k hk
    have hn8 : (k : Int) < (t.n : Int) := by omega
    have hir : IntKind.i64.wrap (k : Int) = (k : Int) := by rw [IntKind.wrap_i64]; have := HOk.out.n8; omega
    obtain ⟨tn, htn⟩ : ∃ tn, tn = t.n := ⟨_, rfl⟩
    have HTn := Lib.hid htn
    rw [← htn] at HBe hn8 hk
    clear ha ha' htn HRv
    generalize roleV t.own.id c k (ff k) = r at *
    have HCr := Lib.hid cr
    clear cr
    go_enter Try.func24, Try.ntmps24
    go_upto_region 2 with (go_at_call 23; (with_reducible refine HBe.out.mono ?_); rintro e w1 ⟨gr, rfl, hgr, hrow, hb⟩; have HB1 := Lib.hid (bTr (bAl (bRef w) _) (hb.mono (by simp))); have HR1 := Lib.hid ((hb.block w.heap.size (by omega)).trans (heap_alloc_new w _)); have HRo := Lib.hid hrow; clear hb hgr)
    have HOs : Hid (OS w b g t c w1.heap.size (w1.alloc (.cells (VC c) 25))) := Lib.hid (by
      have ht := HT.out.below HB1.out
      have ha := bAl (bRef w1) (.cells (VC c) 25)
      exact ⟨bAl HB1.out _, (ha.block _ (lt_of_heap HR1.out)).trans HR1.out, heap_alloc_new w1 _, (ha.cell ht.lt).trans ht.c0, (ha.cell ht.lt).trans ht.c4, (ha.cell ht.lt).trans ht.c6⟩)
    have hrk : (w1.alloc (.cells (VC c) 25)).cell? ⟨gr, k, none⟩ = some (.int .i64 r) := ((bAl (bRef w1) _).cell (p := ⟨gr, k, none⟩) (lt_of_heap HRo.out)).trans ((cell_of_row _ _ k _ _ _ HRo.out).trans HCr.out)
    have HBq := Lib.hid (show w.heap.size < w1.heap.size ∧ b ≠ w1.heap.size ∧ g ≠ w1.heap.size from by
      have ht := HT.out.below HB1.out
      have h1 := ht.lt
      have h2 := ht.glt
      have h3 := lt_of_heap HR1.out
      exact ⟨h3, by omega, by omega⟩)
    rw [show VC c = #[.int .i64 c.r.one, .int .i64 c.r.cls, .int .i64 c.r.two, .int .i64 c.r.id, .int .i64 c.steps, .int .i64 c.from_, .int .i64 c.port, .int .i64 c.at_] from rfl] at HOs hrk
    generalize w1.alloc (.cells #[.int .i64 c.r.one, .int .i64 c.r.cls, .int .i64 c.r.two, .int .i64 c.r.id, .int .i64 c.steps, .int .i64 c.from_, .int .i64 c.port, .int .i64 c.at_] 25) = W2 at *
    generalize w1.heap.size = q at *
    clear HBe HB1 HR1 hrow HRo
    by_cases hr1 : r = 1
    · have hrb : (r != 1) = false := by rw [hr1]; rfl
      have HOB2 := Lib.hid (show ob = decide (om.chk = 0) by rw [HOB.out, hr1]; rfl)
      clear hr1 HOB
      go_upto_region 4 with (go_at_call 36; (with_reducible refine (HHs.out _ HOs.out.bel).mono ?_); rintro e w2 ⟨rfl, rfl⟩)
      have hx := HOs.out.drew
      clear hrk
      refine wp_region_held_drew (S := OS w b g t c q) (by kernel_rfl) hx (fun h0 => ?_)
      refine hTakeS (i := 0) (k := 32) (v := .pointer (some ⟨b, 0, none⟩)) rfl rfl (by kernel_rfl) (by kernel_rfl) (by kernel_rfl) (fun _ _ _ h => h) (yieldsIf_val (by rfl) (by intro W; go_simp)) h0 ?_
      simp only [List.setIfInBounds_toArray, List.set_cons_zero, List.set_cons_succ]
      refine hTakeS (i := 1) (k := 33) (v := .pointer (some ⟨b, 0, none⟩)) rfl rfl (by kernel_rfl) (by kernel_rfl) (by kernel_rfl) (fun _ _ _ h => h) (yieldsIf_val (by rfl) (by intro W; go_simp)) h0 ?_
      simp only [List.setIfInBounds_toArray, List.set_cons_zero, List.set_cons_succ]
      refine hTakeS (i := 2) (k := 34) (v := .pointer (some ⟨b, 0, none⟩)) rfl rfl (by kernel_rfl) (by kernel_rfl) (by kernel_rfl) (fun _ _ _ h => h) (yieldsIf_val (by rfl) (by intro W; go_simp)) h0 ?_
      simp only [List.setIfInBounds_toArray, List.set_cons_zero, List.set_cons_succ]
      refine hTakeS (i := 3) (k := 35) (v := .int .i64 t.dom) rfl rfl (by kernel_rfl) (by kernel_rfl) (by kernel_rfl) (fun _ _ _ h => h) (.inl ⟨by rfl, fun W hW => by have c := hW.t0; go_simp⟩) h0 ?_
      simp only [List.setIfInBounds_toArray, List.set_cons_zero, List.set_cons_succ]
      refine hTakeS (i := 4) (k := 36) (v := .int .i64 seq) rfl rfl (by kernel_rfl) (by kernel_rfl) (by kernel_rfl) (fun _ _ _ h => h) (yieldsIf_val (by rfl) (by intro W; go_simp)) h0 ?_
      simp only [List.setIfInBounds_toArray, List.set_cons_zero, List.set_cons_succ]
      refine hTakeS (i := 5) (k := 37) (v := .pointer (some ⟨b, 0, none⟩)) rfl rfl (by kernel_rfl) (by kernel_rfl) (by kernel_rfl) (fun _ _ _ h => h) (yieldsIf_val (by rfl) (by intro W; go_simp)) h0 ?_
      simp only [List.setIfInBounds_toArray, List.set_cons_zero, List.set_cons_succ]
      refine hTakeS (i := 6) (k := 38) (v := .pointer (some ⟨b, 0, none⟩)) rfl rfl (by kernel_rfl) (by kernel_rfl) (by kernel_rfl) (fun _ _ _ h => h) (yieldsIf_val (by rfl) (by intro W; go_simp)) h0 ?_
      simp only [List.setIfInBounds_toArray, List.set_cons_zero, List.set_cons_succ]
      refine hTakeS (i := 7) (k := 39) (v := .pointer (some ⟨b, 1, none⟩)) rfl rfl (by kernel_rfl) (by kernel_rfl) (by kernel_rfl) (fun _ _ _ h => h) (yieldsIf_val (by rfl) (by intro W; go_simp)) h0 ?_
      simp only [List.setIfInBounds_toArray, List.set_cons_zero, List.set_cons_succ]
      refine hTakeS (i := 8) (k := 40) (v := .pointer (some ⟨b, 4, none⟩)) rfl rfl (by kernel_rfl) (by kernel_rfl) (by kernel_rfl) (fun _ _ _ h => h) (yieldsIf_val (by rfl) (by intro W; go_simp)) h0 ?_
      simp only [List.setIfInBounds_toArray, List.set_cons_zero, List.set_cons_succ]
      refine hTakeS (i := 9) (k := 41) (v := .int .i64 t.own.id) rfl rfl (by kernel_rfl) (by kernel_rfl) (by kernel_rfl) (fun _ _ _ h => h) (.inl ⟨by rfl, fun W hW => by have c := hW.t4; go_simp⟩) h0 ?_
      simp only [List.setIfInBounds_toArray, List.set_cons_zero, List.set_cons_succ]
      refine hTakeS (i := 10) (k := 42) (v := .int .i64 (k : Int)) rfl rfl (by kernel_rfl) (by kernel_rfl) (by kernel_rfl) (fun _ _ _ h => h) (yieldsIf_val (by rfl) (by intro W; go_simp)) h0 ?_
      simp only [List.setIfInBounds_toArray, List.set_cons_zero, List.set_cons_succ]
      refine hTakeS (i := 11) (k := 43) (v := .pointer (some ⟨q, 0, none⟩)) rfl rfl (by kernel_rfl) (by kernel_rfl) (by kernel_rfl) (fun _ _ _ h => h) (yieldsIf_val (by rfl) (by intro W; go_simp)) h0 ?_
      simp only [List.setIfInBounds_toArray, List.set_cons_zero, List.set_cons_succ]
      refine hTakeS (i := 12) (k := 44) (v := .agg #[.int .i64 c.r.one, .int .i64 c.r.cls, .int .i64 c.r.two, .int .i64 c.r.id]) rfl rfl (by kernel_rfl) (by kernel_rfl) (by kernel_rfl) (fun _ _ _ h => h) (.inl ⟨by rfl, fun W hW => loadOp _ _ rfl _ _ #[.int .i64 c.r.one, .int .i64 c.r.cls, .int .i64 c.r.two, .int .i64 c.r.id] _ (range_of_row hW.vb 0 _ (vhead c)) Try.underlying23 rfl (by kernel_rfl) rfl⟩) h0 ?_
      simp only [List.setIfInBounds_toArray, List.set_cons_zero, List.set_cons_succ]
      refine hTakeS (i := 13) (k := 45) (v := .agg #[.int .i64 11, .int .i64 t.dom, .int .i64 seq, .int .i64 t.own.id, .int .i64 (k : Int), .int .i64 0, .int .i64 0, .int .i64 0, .int .i64 0, .int .i64 0, .int .i64 c.r.one, .int .i64 c.r.cls, .int .i64 c.r.two, .int .i64 c.r.id, .int .i64 0, .slice none 0 0]) rfl rfl (by kernel_rfl) (by kernel_rfl) (by kernel_rfl) (fun _ _ _ h => h) (yieldsIf_val (by rfl) (fun W => buildOp _ _ rfl #[.int .i64 11, .int .i64 t.dom, .int .i64 seq, .int .i64 t.own.id, .int .i64 (k : Int), .int .i64 0, .int .i64 0, .int .i64 0, .int .i64 0, .int .i64 0, .int .i64 c.r.one, .int .i64 c.r.cls, .int .i64 c.r.two, .int .i64 c.r.id, .int .i64 0, .slice none 0 0] (by simp only [List.map_toArray, List.map_cons, List.map_nil]; kernel_rfl) W)) hx ?_
      simp only [List.setIfInBounds_toArray, List.set_cons_zero, List.set_cons_succ]
      refine hOneS (i := 14) (k := 12) (v := .pointer (some ⟨W2.heap.size, 0, none⟩)) (w' := W2.drew.alloc (.cells #[.int .i64 0, .int .i64 0, .int .i64 0, .int .i64 0, .int .i64 0, .int .i64 0, .int .i64 0, .int .i64 0, .int .i64 0, .int .i64 0, .int .i64 0, .int .i64 0, .int .i64 0, .int .i64 0, .int .i64 0, .slice none 0 0] 58)) (by kernel_rfl) rfl rfl (by rfl) (allocM rfl _) (hx.below (bAl (bRef _) _)) ?_
      simp only [List.setIfInBounds_toArray, List.set_cons_zero, List.set_cons_succ]
      refine hOneNS (i := 15) (w' := W2.drew.alloc (.cells #[.int .i64 11, .int .i64 t.dom, .int .i64 seq, .int .i64 t.own.id, .int .i64 (k : Int), .int .i64 0, .int .i64 0, .int .i64 0, .int .i64 0, .int .i64 0, .int .i64 c.r.one, .int .i64 c.r.cls, .int .i64 c.r.two, .int .i64 c.r.id, .int .i64 0, .slice none 0 0] 58)) (by kernel_rfl) rfl rfl (by rfl) (storeNewM (W := W2.drew) _ _ rfl (g := W2.heap.size) rfl #[.int .i64 11, .int .i64 t.dom, .int .i64 seq, .int .i64 t.own.id, .int .i64 (k : Int), .int .i64 0, .int .i64 0, .int .i64 0, .int .i64 0, .int .i64 0, .int .i64 c.r.one, .int .i64 c.r.cls, .int .i64 c.r.two, .int .i64 c.r.id, .int .i64 0, .slice none 0 0] rfl rfl rfl (by simp [Value.oneCell'])) (hx.below (bAl (bRef _) _)) ?_
      refine wpAnyH_done (by kernel_rfl) ?_ _
      have HO4 := Lib.hid (hx.below (bAl (bRef _) (.cells #[.int .i64 11, .int .i64 t.dom, .int .i64 seq, .int .i64 t.own.id, .int .i64 (k : Int), .int .i64 0, .int .i64 0, .int .i64 0, .int .i64 0, .int .i64 0, .int .i64 c.r.one, .int .i64 c.r.cls, .int .i64 c.r.two, .int .i64 c.r.id, .int .i64 0, .slice none 0 0] 58)))
      have HM4 := Lib.hid (heap_alloc_new W2.drew (.cells #[.int .i64 11, .int .i64 t.dom, .int .i64 seq, .int .i64 t.own.id, .int .i64 (k : Int), .int .i64 0, .int .i64 0, .int .i64 0, .int .i64 0, .int .i64 0, .int .i64 c.r.one, .int .i64 c.r.cls, .int .i64 c.r.two, .int .i64 c.r.id, .int .i64 0, .slice none 0 0] 58))
      have HQ4 := Lib.hid (show w.heap.size < W2.heap.size ∧ W2.heap.size ≠ q ∧ W2.heap.size ≠ b ∧ W2.heap.size ≠ g from by
        have h1 := lt_of_heap HOs.out.res
        have h2 := lt_of_heap HOs.out.vb
        have ht := HT.out.below HOs.out.bel
        have h3 := ht.lt
        have h4 := ht.glt
        exact ⟨h1, by omega, by omega, by omega⟩)
      clear hx hrb
      rw [show W2.drew.heap.size = W2.heap.size from rfl] at HM4
      generalize W2.drew.alloc (.cells #[.int .i64 11, .int .i64 t.dom, .int .i64 seq, .int .i64 t.own.id, .int .i64 (k : Int), .int .i64 0, .int .i64 0, .int .i64 0, .int .i64 0, .int .i64 0, .int .i64 c.r.one, .int .i64 c.r.cls, .int .i64 c.r.two, .int .i64 c.r.id, .int .i64 0, .slice none 0 0] 58) = W3 at *
      generalize W2.heap.size = qm at *
      rcases HCa.out with ha | ⟨j, hj, ha⟩
      · have hom : om = ⟨11, t.dom, seq, t.own.id, k, 0, 0, 0, 0, 0, c.r.one, c.r.cls, c.r.two, c.r.id, 0, [] ++ [t.own.id]⟩ := by rw [HOM.out, if_pos ha, if_pos ha]
        subst hom
        have HPl : Hid (LArg W3 (.slice none 0 0) [] ∧ ([] : List Int).length ≤ 1000) := Lib.hid ⟨⟨fun x hx => by simp at hx, .inl ⟨rfl, none, 0, rfl, fun _ => rfl⟩⟩, by simp⟩
        have HPx : Hid (∀ x ∈ ([] : List Int) ++ [t.own.id], In64 x) := Lib.hid (fun x hx => by simp at hx; subst hx; exact HFit.out.own.2.2.2)
        have c7 : W3.cell? ⟨q, 7, none⟩ = some (.int .i64 (-1)) := by have := HO4.out.v7; rw [ha] at this; exact this
        have HCkk := Lib.hid (fun W u (hu : LArg W u ([] ++ [t.own.id])) => check_any ⟨11, t.dom, seq, t.own.id, k, 0, 0, 0, 0, 0, c.r.one, c.r.cls, c.r.two, c.r.id, 0, [] ++ [t.own.id]⟩ u W (wf_ann HFit.out HFr.out HIn.out ⟨by decide, by decide⟩ HPx.out) hu (by simp))
        obtain ⟨l8, hl8⟩ : ∃ l8, l8 = (([] : List Int) ++ [t.own.id]).length := ⟨_, rfl⟩
        have HL8 := Lib.hid hl8
        clear hl8
        have HC8 := Lib.hid (concat_arg (w := W3) HPl.out.1 t.own.id ⟨HPl.out.2, HFit.out.own.2.2.2⟩)
        have t4 := HO4.out.t4
        have hbz := lt_of_heap HM4.out
        have hbs : b < W3.heap.size := block_lt_cell HO4.out.t6
        go_upto_region 9 with (go_at_call 37; (with_reducible refine (HC8.out).mono ?_); rintro e w8 ⟨v8, rfl, ho8, hb8⟩; obtain ⟨p8, c8, hv8⟩ := ho8.slice; rw [← HL8.out] at hv8; subst hv8; have HB8 := Lib.hid (bTr (bAl (bAl (bRef W3) (.cells #[.int .i64 t.own.id] 3)) (.cells #[.slice none 0 0, .slice (some ⟨W3.heap.size, 0, none⟩) 1 1] 40)) hb8); have HO8 := Lib.hid ho8; clear hb8; have c15 := ((HB8.out).cell (p := ⟨qm, 15, none⟩) hbz).trans (cell_of_row _ _ 15 _ _ _ HM4.out); have f15 := ((HB8.out).frozen (p := ⟨qm, 15, none⟩) hbz).trans (frozen_of_row _ _ _ _ _ HM4.out))
        clear ho8 c15 f15 t4
        have HS9 := Lib.hid (heap_setCell_same w8 qm 15 _ _ (.slice p8 l8 c8) ((HB8.out.block _ hbz).trans HM4.out))
        rw [show (#[.int .i64 11, .int .i64 t.dom, .int .i64 seq, .int .i64 t.own.id, .int .i64 (k : Int), .int .i64 0, .int .i64 0, .int .i64 0, .int .i64 0, .int .i64 0, .int .i64 c.r.one, .int .i64 c.r.cls, .int .i64 c.r.two, .int .i64 c.r.id, .int .i64 0, .slice none 0 0] : Array Value).setIfInBounds 15 (.slice p8 l8 c8) = #[.int .i64 11, .int .i64 t.dom, .int .i64 seq, .int .i64 t.own.id, .int .i64 (k : Int), .int .i64 0, .int .i64 0, .int .i64 0, .int .i64 0, .int .i64 0, .int .i64 c.r.one, .int .i64 c.r.cls, .int .i64 c.r.two, .int .i64 c.r.id, .int .i64 0, .slice p8 l8 c8] from rfl] at HS9
        have HO9 := Lib.hid ((HO4.out.below HB8.out).setc ⟨HQ4.out.1, HQ4.out.2.1, HQ4.out.2.2.1⟩ 15 (.slice p8 l8 c8))
        have HOw := Lib.hid (HO8.out.setc (e := 3) ((HB8.out.block _ hbz).trans HM4.out) (by decide) 15 (.slice p8 l8 c8) (B' := w.heap.size) (Nat.le_trans HO4.out.bel.size (by simp; omega)))
        generalize w8.setCell ⟨qm, 15, none⟩ (.slice p8 l8 c8) = W9 at *
        clear hbz hbs HB8 HO8 HC8
        have HCk := Lib.hid (HCkk.out W9 _ ((own_pa HOw.out).larg HPx.out))
        rw [show MV _ (.slice p8 l8 c8) = .agg #[.int .i64 11, .int .i64 t.dom, .int .i64 seq, .int .i64 t.own.id, .int .i64 (k : Int), .int .i64 0, .int .i64 0, .int .i64 0, .int .i64 0, .int .i64 0, .int .i64 c.r.one, .int .i64 c.r.cls, .int .i64 c.r.two, .int .i64 c.r.id, .int .i64 0, .slice p8 l8 c8] from rfl] at HCk
        obtain ⟨cv, hcv⟩ : ∃ cv, cv = (⟨11, t.dom, seq, t.own.id, k, 0, 0, 0, 0, 0, c.r.one, c.r.cls, c.r.two, c.r.id, 0, [] ++ [t.own.id]⟩ : Mg).chk := ⟨_, rfl⟩
        rw [← hcv] at HCk HOB2
        clear hcv
        by_cases hck : cv = 0
        · rw [hck] at HCk
          obtain rfl : ob = true := by rw [HOB2.out]; exact decide_eq_true hck
          go_wp2_with (first
            | ((with_reducible refine at_loadM ?_); refine wpList_loadM rfl _ rfl qm rfl #[.int .i64 11, .int .i64 t.dom, .int .i64 seq, .int .i64 t.own.id, .int .i64 (k : Int), .int .i64 0, .int .i64 0, .int .i64 0, .int .i64 0, .int .i64 0, .int .i64 c.r.one, .int .i64 c.r.cls, .int .i64 c.r.two, .int .i64 c.r.id, .int .i64 0, .slice p8 l8 c8] _ HS9.out rfl ?_)
            | ((with_reducible refine at_loadM ?_); refine wpList_loadM rfl _ rfl qm rfl #[.int .i64 11, .int .i64 t.dom, .int .i64 seq, .int .i64 t.own.id, .int .i64 (k : Int), .int .i64 0, .int .i64 0, .int .i64 0, .int .i64 0, .int .i64 0, .int .i64 c.r.one, .int .i64 c.r.cls, .int .i64 c.r.two, .int .i64 c.r.id, .int .i64 0, .slice p8 l8 c8] _ HS10.out rfl ?_)
            | (go_at_call 28; (with_reducible refine HCk.out.mono ?_); rintro e w10 ⟨rfl, hb⟩; have HS10 := Lib.hid ((hb.block _ (lt_of_heap HS9.out)).trans HS9.out); have HO10 := Lib.hid (HO9.out.below hb); have HOw10 := Lib.hid (HOw.out.below hb); clear hb)
            | ((with_reducible refine at_storeM ?_); refine wpList_store_row rfl _ _ _ rfl _ #[.int .i64 11, .int .i64 t.dom, .int .i64 seq, .int .i64 t.own.id, .int .i64 (k : Int), .int .i64 0, .int .i64 0, .int .i64 0, .int .i64 0, .int .i64 0, .int .i64 c.r.one, .int .i64 c.r.cls, .int .i64 c.r.two, .int .i64 c.r.id, .int .i64 0, .slice p8 l8 c8] rfl rfl _ _ HO10.out.res (by kernel_rfl) rfl (by simp [Value.oneCell']) ?_))
          refine bodyW2 rfl w.heap.size #[.int .i64 11, .int .i64 t.dom, .int .i64 seq, .int .i64 t.own.id, .int .i64 (k : Int), .int .i64 0, .int .i64 0, .int .i64 0, .int .i64 0, .int .i64 0, .int .i64 c.r.one, .int .i64 c.r.cls, .int .i64 c.r.two, .int .i64 c.r.id, .int .i64 0, .slice p8 l8 c8] (.bool true) _ rfl rfl (setRow_heap _ _ _ _ _ _ HO10.out.res) Try.underlying58 rfl (by kernel_rfl) rfl ?_
          exact ⟨bRow HO10.out.bel _ (Nat.le_refl _) _, .inr ⟨rfl, _, rfl, HOw10.out.row HO10.out.res (by decide)⟩⟩
        · obtain rfl : ob = false := by rw [HOB2.out]; exact decide_eq_false hck
          have d9 : ((cv : Int) != 0) = true := by rw [bne_iff_ne]; omega
          have d9' : ((cv : Int) == 0) = false := by rw [beq_eq_false_iff_ne]; omega
          have d9n : ¬ cv = 0 := hck
          have HCk2 := HCk
          go_wp2_with (first
            | ((with_reducible refine at_loadM ?_); refine wpList_loadM rfl _ rfl qm rfl #[.int .i64 11, .int .i64 t.dom, .int .i64 seq, .int .i64 t.own.id, .int .i64 (k : Int), .int .i64 0, .int .i64 0, .int .i64 0, .int .i64 0, .int .i64 0, .int .i64 c.r.one, .int .i64 c.r.cls, .int .i64 c.r.two, .int .i64 c.r.id, .int .i64 0, .slice p8 l8 c8] _ HS9.out rfl ?_)
            | (go_at_call 28; (with_reducible refine HCk.out.mono ?_); rintro e w10 ⟨rfl, hb⟩; have HO10 := Lib.hid (HO9.out.below hb); clear hb)
            | ((with_reducible refine at_buildM ?_); refine wpList_buildG rfl _ _ rfl #[.int .i64 0, .int .i64 0, .int .i64 0, .int .i64 0, .int .i64 0, .int .i64 0, .int .i64 0, .int .i64 0, .int .i64 0, .int .i64 0, .int .i64 0, .int .i64 0, .int .i64 0, .int .i64 0, .int .i64 0, .slice none 0 0] (by simp only [List.map_toArray, List.map_nil]; exact Try.builtZ) ?_)
            | ((with_reducible refine at_storeM ?_); refine wpList_store_row rfl _ _ _ rfl _ #[.int .i64 0, .int .i64 0, .int .i64 0, .int .i64 0, .int .i64 0, .int .i64 0, .int .i64 0, .int .i64 0, .int .i64 0, .int .i64 0, .int .i64 0, .int .i64 0, .int .i64 0, .int .i64 0, .int .i64 0, .slice none 0 0] rfl rfl _ _ HO10.out.res (by kernel_rfl) rfl (by simp [Value.oneCell']) ?_))
          refine bodyW2 rfl w.heap.size #[.int .i64 0, .int .i64 0, .int .i64 0, .int .i64 0, .int .i64 0, .int .i64 0, .int .i64 0, .int .i64 0, .int .i64 0, .int .i64 0, .int .i64 0, .int .i64 0, .int .i64 0, .int .i64 0, .int .i64 0, .slice none 0 0] (.bool false) _ rfl rfl (setRow_heap _ _ _ _ _ _ HO10.out.res) Try.underlying58 rfl (by kernel_rfl) rfl ?_
          exact ⟨bRow HO10.out.bel _ (Nat.le_refl _) _, .inl ⟨rfl, rfl⟩⟩
      · have hjz : ¬ (c.at_ = -1) := by omega
        have hom : om = ⟨11, t.dom, seq, t.own.id, k, 0, 0, 0, 0, 0, c.r.one, c.r.cls, c.r.two, c.r.id, c.steps + 1, (t.ports j).path ++ [t.own.id]⟩ := by rw [HOM.out, if_neg hjz, if_neg hjz, ha, Int.toNat_natCast]
        subst hom
        have ht3 := HT.out.below HO4.out.bel
        obtain ⟨pa, pc, hu⟩ := (ht3.path j hj).slice
        have HPt := Lib.hid (ht3.port hj 11 (us j) rfl)
        rw [hu] at HPt
        have HPp := Lib.hid (ht3.path j hj)
        rw [hu] at HPp
        have HPx : Hid (∀ x ∈ (t.ports j).path ++ [t.own.id], In64 x) := Lib.hid (fun x hx => by
          rcases List.mem_append.1 hx with h | h
          · exact HOk.out.paths j hj x h
          · simp at h; subst h; exact HFit.out.own.2.2.2)
        have hpl := HFit.out.plen j hj
        have HPl0 : Hid (∀ V, PA V (.slice pa (t.ports j).path.length pc) (t.ports j).path → LArg V (.slice pa (t.ports j).path.length pc) (t.ports j).path ∧ (t.ports j).path.length ≤ 1000) := Lib.hid (fun V h => ⟨h.larg (HOk.out.paths j hj), by omega⟩)
        have hst := HFs.out
        have HCkk := Lib.hid (fun W u (hu : LArg W u ((t.ports j).path ++ [t.own.id])) => check_any ⟨11, t.dom, seq, t.own.id, k, 0, 0, 0, 0, 0, c.r.one, c.r.cls, c.r.two, c.r.id, c.steps + 1, (t.ports j).path ++ [t.own.id]⟩ u W (wf_ann HFit.out HFr.out HIn.out ⟨by omega, by omega⟩ HPx.out) hu (by simp; omega))
        have c7 : W3.cell? ⟨q, 7, none⟩ = some (.int .i64 (j : Int)) := by have := HO4.out.v7; rw [ha] at this; exact this
        have hj1 : ((j : Int) != -1) = true := by rw [bne_iff_ne]; omega
        have hj2 : ((j : Int) == -1) = false := by rw [beq_eq_false_iff_ne]; omega
        have hwr : IntKind.i64.wrap (c.steps + 1) = c.steps + 1 := by rw [IntKind.wrap_i64]; omega
        have hjn : (j : Int) < (tn : Int) := by rw [HTn.out]; omega
        have hjd : decide ((j : Int) < (tn : Int)) = true := decide_eq_true hjn
        have hjz2 : ¬ (j : Int) < 0 := by omega
        have HJ := Lib.hid ha
        have HQM := Lib.hid (show (w.heap.size < qm ∧ qm ≠ q ∧ qm ≠ b) ∧ qm ≠ g from ⟨⟨HQ4.out.1, HQ4.out.2.1, HQ4.out.2.2.1⟩, HQ4.out.2.2.2⟩)
        have HM14 := Lib.hid (show W3.drew.cell? ⟨qm, 14, none⟩ = some (.int .i64 0) from cell_of_row W3 _ 14 _ _ _ HM4.out)
        have HF14 := Lib.hid (show W3.drew.frozen? ⟨qm, 14, none⟩ = false from frozen_of_row W3 _ _ _ _ HM4.out)
        obtain ⟨pl, hple⟩ : ∃ pl, pl = (t.ports j).path.length := ⟨_, rfl⟩
        rw [← hple] at HPt HPp HPl0
        have HPle := Lib.hid hple
        clear ha hjz ht3 hu hpl hst hj hple
        go_upto_region 7 with fail
        have hx : OP w b g t c q j (.slice pa pl pc) W3.drew := ⟨HO4.out.drew, HPt.out⟩
        clear c7 hj1 hj2
        refine wp_region_held_drew (S := OP w b g t c q j (.slice pa pl pc)) (by kernel_rfl) hx (fun h0 => ?_)
        refine hTakeS (i := 0) (k := 49) (v := .pointer (some ⟨q, 4, none⟩)) rfl rfl (by kernel_rfl) (by kernel_rfl) (by kernel_rfl) (fun _ _ _ h => h) (yieldsIf_val (by rfl) (by intro W; go_simp)) h0 ?_
        simp only [List.setIfInBounds_toArray, List.set_cons_zero, List.set_cons_succ]
        refine hTakeS (i := 1) (k := 50) (v := .int .i64 c.steps) rfl rfl (by kernel_rfl) (by kernel_rfl) (by kernel_rfl) (fun _ _ _ h => h) (.inl ⟨by rfl, fun W hW => by have c1 := hW.os.v4; go_simp⟩) h0 ?_
        simp only [List.setIfInBounds_toArray, List.set_cons_zero, List.set_cons_succ]
        refine hTakeS (i := 2) (k := 51) (v := .int .i64 (c.steps + 1)) rfl rfl (by kernel_rfl) (by kernel_rfl) (by kernel_rfl) (fun _ _ _ h => h) (yieldsIf_val (by rfl) (by intro W; go_simp)) h0 ?_
        simp only [List.setIfInBounds_toArray, List.set_cons_zero, List.set_cons_succ]
        refine hTakeS (i := 3) (k := 52) (v := .pointer (some ⟨b, 0, none⟩)) rfl rfl (by kernel_rfl) (by kernel_rfl) (by kernel_rfl) (fun _ _ _ h => h) (yieldsIf_val (by rfl) (by intro W; go_simp)) h0 ?_
        simp only [List.setIfInBounds_toArray, List.set_cons_zero, List.set_cons_succ]
        refine hTakeS (i := 4) (k := 53) (v := .pointer (some ⟨b, 0, none⟩)) rfl rfl (by kernel_rfl) (by kernel_rfl) (by kernel_rfl) (fun _ _ _ h => h) (yieldsIf_val (by rfl) (by intro W; go_simp)) h0 ?_
        simp only [List.setIfInBounds_toArray, List.set_cons_zero, List.set_cons_succ]
        refine hTakeS (i := 5) (k := 54) (v := .pointer (some ⟨b, 6, none⟩)) rfl rfl (by kernel_rfl) (by kernel_rfl) (by kernel_rfl) (fun _ _ _ h => h) (yieldsIf_val (by rfl) (by intro W; go_simp)) h0 ?_
        simp only [List.setIfInBounds_toArray, List.set_cons_zero, List.set_cons_succ]
        refine hTakeS (i := 6) (k := 55) (v := .slice (some ⟨g, 0, none⟩) tn tn) rfl rfl (by kernel_rfl) (by kernel_rfl) (by kernel_rfl) (fun _ _ _ h => h) (.inl ⟨by rfl, fun W hW => by have c1 := hW.os.t6; rw [← HTn.out] at c1; go_simp⟩) h0 ?_
        simp only [List.setIfInBounds_toArray, List.set_cons_zero, List.set_cons_succ]
        refine hTakeS (i := 7) (k := 56) (v := .pointer (some ⟨q, 7, none⟩)) rfl rfl (by kernel_rfl) (by kernel_rfl) (by kernel_rfl) (fun _ _ _ h => h) (yieldsIf_val (by rfl) (by intro W; go_simp)) h0 ?_
        simp only [List.setIfInBounds_toArray, List.set_cons_zero, List.set_cons_succ]
        refine hTakeS (i := 8) (k := 57) (v := .int .i64 (j : Int)) rfl rfl (by kernel_rfl) (by kernel_rfl) (by kernel_rfl) (fun _ _ _ h => h) (.inl ⟨by rfl, fun W hW => by have c1 := hW.os.v7; rw [HJ.out] at c1; go_simp⟩) h0 ?_
        simp only [List.setIfInBounds_toArray, List.set_cons_zero, List.set_cons_succ]
        refine hTakeS (i := 9) (k := 58) (v := .pointer (some ⟨g, j * 12, none⟩)) rfl rfl (by kernel_rfl) (by kernel_rfl) (by kernel_rfl) (fun _ _ _ h => h) (yieldsIf_val (by rfl) (by intro W; go_simp)) h0 ?_
        simp only [List.setIfInBounds_toArray, List.set_cons_zero, List.set_cons_succ]
        refine hTakeS (i := 10) (k := 59) (v := .pointer (some ⟨g, j * 12 + 11, none⟩)) rfl rfl (by kernel_rfl) (by kernel_rfl) (by kernel_rfl) (fun _ _ _ h => h) (yieldsIf_val (by rfl) (by intro W; go_simp)) h0 ?_
        simp only [List.setIfInBounds_toArray, List.set_cons_zero, List.set_cons_succ]
        refine hTakeS (i := 11) (k := 60) (v := .slice pa pl pc) rfl rfl (by kernel_rfl) (by kernel_rfl) (by kernel_rfl) (fun _ _ _ h => h) (.inl ⟨by rfl, fun W hW => by have c1 := hW.pth; go_simp⟩) h0 ?_
        simp only [List.setIfInBounds_toArray, List.set_cons_zero, List.set_cons_succ]
        refine hTakeS (i := 12) (k := 61) (v := .pointer (some ⟨qm, 14, none⟩)) rfl rfl (by kernel_rfl) (by kernel_rfl) (by kernel_rfl) (fun _ _ _ h => h) (yieldsIf_val (by rfl) (by intro W; go_simp)) h0 ?_
        simp only [List.setIfInBounds_toArray, List.set_cons_zero, List.set_cons_succ]
        refine hOneNS (i := 13) (w' := W3.drew.setCell ⟨qm, 14, none⟩ (.int .i64 (c.steps + 1))) (by kernel_rfl) rfl rfl (by rfl) (by have c14 := HM14.out; have f14 := HF14.out; go_simp) (hx.set HQM.out _ _) ?_
        refine hTakeS (i := 14) (k := 13) (v := .slice pa pl pc) rfl rfl (by kernel_rfl) (by kernel_rfl) (by kernel_rfl) (fun _ _ _ h => h) (yieldsIf_val (by rfl) (by intro W; go_simp)) (hx.set HQM.out _ _) ?_
        simp only [List.setIfInBounds_toArray, List.set_cons_zero, List.set_cons_succ]
        refine wpAnyH_done (by kernel_rfl) ?_ _
        have HO5 := Lib.hid (HO4.out.drew.setc HQM.out.1 14 (.int .i64 (c.steps + 1)))
        have HM5 := Lib.hid (heap_setCell_same W3.drew qm 14 _ _ (.int .i64 (c.steps + 1)) HM4.out)
        rw [show (#[.int .i64 11, .int .i64 t.dom, .int .i64 seq, .int .i64 t.own.id, .int .i64 (k : Int), .int .i64 0, .int .i64 0, .int .i64 0, .int .i64 0, .int .i64 0, .int .i64 c.r.one, .int .i64 c.r.cls, .int .i64 c.r.two, .int .i64 c.r.id, .int .i64 0, .slice none 0 0] : Array Value).setIfInBounds 14 (.int .i64 (c.steps + 1)) = #[.int .i64 11, .int .i64 t.dom, .int .i64 seq, .int .i64 t.own.id, .int .i64 (k : Int), .int .i64 0, .int .i64 0, .int .i64 0, .int .i64 0, .int .i64 0, .int .i64 c.r.one, .int .i64 c.r.cls, .int .i64 c.r.two, .int .i64 c.r.id, .int .i64 (c.steps + 1), .slice none 0 0] from rfl] at HM5
        have HPl1 := Lib.hid (HPl0.out (W3.drew.setCell ⟨qm, 14, none⟩ (.int .i64 (c.steps + 1))) (HPp.out.keep fun i cs fr hi => heap_setCell_other W3.drew ⟨qm, 14, none⟩ i _ (neq_tag hi HM4.out (by decide))))
        have HPl : Hid (LArg (W3.drew.setCell ⟨qm, 14, none⟩ (.int .i64 (c.steps + 1))) (.slice pa pl pc) (t.ports j).path ∧ (t.ports j).path.length ≤ 1000) := Lib.hid ⟨HPl1.out.1, by rw [← HPle.out]; exact HPl1.out.2⟩
        clear hx hwr
        generalize W3.drew.setCell ⟨qm, 14, none⟩ (.int .i64 (c.steps + 1)) = W5 at *
        obtain ⟨l8, hl8⟩ : ∃ l8, l8 = ((t.ports j).path ++ [t.own.id]).length := ⟨_, rfl⟩
        have HL8 := Lib.hid hl8
        clear hl8
        have HC8 := Lib.hid (concat_arg (w := W5) HPl.out.1 t.own.id ⟨HPl.out.2, HFit.out.own.2.2.2⟩)
        have t4 := HO5.out.t4
        have hbz := lt_of_heap HM5.out
        have hbs : b < W5.heap.size := block_lt_cell HO5.out.t6
        go_upto_region 9 with (go_at_call 37; (with_reducible refine (HC8.out).mono ?_); rintro e w8 ⟨v8, rfl, ho8, hb8⟩; obtain ⟨p8, c8, hv8⟩ := ho8.slice; rw [← HL8.out] at hv8; subst hv8; have HB8 := Lib.hid (bTr (bAl (bAl (bRef W5) (.cells #[.int .i64 t.own.id] 3)) (.cells #[.slice pa pl pc, .slice (some ⟨W5.heap.size, 0, none⟩) 1 1] 40)) hb8); have HO8 := Lib.hid ho8; clear hb8; have c15 := ((HB8.out).cell (p := ⟨qm, 15, none⟩) hbz).trans (cell_of_row _ _ 15 _ _ _ HM5.out); have f15 := ((HB8.out).frozen (p := ⟨qm, 15, none⟩) hbz).trans (frozen_of_row _ _ _ _ _ HM5.out))
        clear ho8 c15 f15 t4
        have HS9 := Lib.hid (heap_setCell_same w8 qm 15 _ _ (.slice p8 l8 c8) ((HB8.out.block _ hbz).trans HM5.out))
        rw [show (#[.int .i64 11, .int .i64 t.dom, .int .i64 seq, .int .i64 t.own.id, .int .i64 (k : Int), .int .i64 0, .int .i64 0, .int .i64 0, .int .i64 0, .int .i64 0, .int .i64 c.r.one, .int .i64 c.r.cls, .int .i64 c.r.two, .int .i64 c.r.id, .int .i64 (c.steps + 1), .slice none 0 0] : Array Value).setIfInBounds 15 (.slice p8 l8 c8) = #[.int .i64 11, .int .i64 t.dom, .int .i64 seq, .int .i64 t.own.id, .int .i64 (k : Int), .int .i64 0, .int .i64 0, .int .i64 0, .int .i64 0, .int .i64 0, .int .i64 c.r.one, .int .i64 c.r.cls, .int .i64 c.r.two, .int .i64 c.r.id, .int .i64 (c.steps + 1), .slice p8 l8 c8] from rfl] at HS9
        have HO9 := Lib.hid ((HO5.out.below HB8.out).setc ⟨HQ4.out.1, HQ4.out.2.1, HQ4.out.2.2.1⟩ 15 (.slice p8 l8 c8))
        have HOw := Lib.hid (HO8.out.setc (e := 3) ((HB8.out.block _ hbz).trans HM5.out) (by decide) 15 (.slice p8 l8 c8) (B' := w.heap.size) (Nat.le_trans HO5.out.bel.size (by simp; omega)))
        generalize w8.setCell ⟨qm, 15, none⟩ (.slice p8 l8 c8) = W9 at *
        clear hbz hbs HB8 HO8 HC8
        have HCk := Lib.hid (HCkk.out W9 _ ((own_pa HOw.out).larg HPx.out))
        rw [show MV _ (.slice p8 l8 c8) = .agg #[.int .i64 11, .int .i64 t.dom, .int .i64 seq, .int .i64 t.own.id, .int .i64 (k : Int), .int .i64 0, .int .i64 0, .int .i64 0, .int .i64 0, .int .i64 0, .int .i64 c.r.one, .int .i64 c.r.cls, .int .i64 c.r.two, .int .i64 c.r.id, .int .i64 (c.steps + 1), .slice p8 l8 c8] from rfl] at HCk
        obtain ⟨cv, hcv⟩ : ∃ cv, cv = (⟨11, t.dom, seq, t.own.id, k, 0, 0, 0, 0, 0, c.r.one, c.r.cls, c.r.two, c.r.id, c.steps + 1, (t.ports j).path ++ [t.own.id]⟩ : Mg).chk := ⟨_, rfl⟩
        rw [← hcv] at HCk HOB2
        clear hcv
        by_cases hck : cv = 0
        · rw [hck] at HCk
          obtain rfl : ob = true := by rw [HOB2.out]; exact decide_eq_true hck
          go_wp2_with (first
            | ((with_reducible refine at_loadM ?_); refine wpList_loadM rfl _ rfl qm rfl #[.int .i64 11, .int .i64 t.dom, .int .i64 seq, .int .i64 t.own.id, .int .i64 (k : Int), .int .i64 0, .int .i64 0, .int .i64 0, .int .i64 0, .int .i64 0, .int .i64 c.r.one, .int .i64 c.r.cls, .int .i64 c.r.two, .int .i64 c.r.id, .int .i64 (c.steps + 1), .slice p8 l8 c8] _ HS9.out rfl ?_)
            | ((with_reducible refine at_loadM ?_); refine wpList_loadM rfl _ rfl qm rfl #[.int .i64 11, .int .i64 t.dom, .int .i64 seq, .int .i64 t.own.id, .int .i64 (k : Int), .int .i64 0, .int .i64 0, .int .i64 0, .int .i64 0, .int .i64 0, .int .i64 c.r.one, .int .i64 c.r.cls, .int .i64 c.r.two, .int .i64 c.r.id, .int .i64 (c.steps + 1), .slice p8 l8 c8] _ HS10.out rfl ?_)
            | (go_at_call 28; (with_reducible refine HCk.out.mono ?_); rintro e w10 ⟨rfl, hb⟩; have HS10 := Lib.hid ((hb.block _ (lt_of_heap HS9.out)).trans HS9.out); have HO10 := Lib.hid (HO9.out.below hb); have HOw10 := Lib.hid (HOw.out.below hb); clear hb)
            | ((with_reducible refine at_storeM ?_); refine wpList_store_row rfl _ _ _ rfl _ #[.int .i64 11, .int .i64 t.dom, .int .i64 seq, .int .i64 t.own.id, .int .i64 (k : Int), .int .i64 0, .int .i64 0, .int .i64 0, .int .i64 0, .int .i64 0, .int .i64 c.r.one, .int .i64 c.r.cls, .int .i64 c.r.two, .int .i64 c.r.id, .int .i64 (c.steps + 1), .slice p8 l8 c8] rfl rfl _ _ HO10.out.res (by kernel_rfl) rfl (by simp [Value.oneCell']) ?_))
          refine bodyW2 rfl w.heap.size #[.int .i64 11, .int .i64 t.dom, .int .i64 seq, .int .i64 t.own.id, .int .i64 (k : Int), .int .i64 0, .int .i64 0, .int .i64 0, .int .i64 0, .int .i64 0, .int .i64 c.r.one, .int .i64 c.r.cls, .int .i64 c.r.two, .int .i64 c.r.id, .int .i64 (c.steps + 1), .slice p8 l8 c8] (.bool true) _ rfl rfl (setRow_heap _ _ _ _ _ _ HO10.out.res) Try.underlying58 rfl (by kernel_rfl) rfl ?_
          exact ⟨bRow HO10.out.bel _ (Nat.le_refl _) _, .inr ⟨rfl, _, rfl, HOw10.out.row HO10.out.res (by decide)⟩⟩
        · obtain rfl : ob = false := by rw [HOB2.out]; exact decide_eq_false hck
          have d9 : ((cv : Int) != 0) = true := by rw [bne_iff_ne]; omega
          have d9' : ((cv : Int) == 0) = false := by rw [beq_eq_false_iff_ne]; omega
          have d9n : ¬ cv = 0 := hck
          have HCk2 := HCk
          go_wp2_with (first
            | ((with_reducible refine at_loadM ?_); refine wpList_loadM rfl _ rfl qm rfl #[.int .i64 11, .int .i64 t.dom, .int .i64 seq, .int .i64 t.own.id, .int .i64 (k : Int), .int .i64 0, .int .i64 0, .int .i64 0, .int .i64 0, .int .i64 0, .int .i64 c.r.one, .int .i64 c.r.cls, .int .i64 c.r.two, .int .i64 c.r.id, .int .i64 (c.steps + 1), .slice p8 l8 c8] _ HS9.out rfl ?_)
            | (go_at_call 28; (with_reducible refine HCk.out.mono ?_); rintro e w10 ⟨rfl, hb⟩; have HO10 := Lib.hid (HO9.out.below hb); clear hb)
            | ((with_reducible refine at_buildM ?_); refine wpList_buildG rfl _ _ rfl #[.int .i64 0, .int .i64 0, .int .i64 0, .int .i64 0, .int .i64 0, .int .i64 0, .int .i64 0, .int .i64 0, .int .i64 0, .int .i64 0, .int .i64 0, .int .i64 0, .int .i64 0, .int .i64 0, .int .i64 0, .slice none 0 0] (by simp only [List.map_toArray, List.map_nil]; exact Try.builtZ) ?_)
            | ((with_reducible refine at_storeM ?_); refine wpList_store_row rfl _ _ _ rfl _ #[.int .i64 0, .int .i64 0, .int .i64 0, .int .i64 0, .int .i64 0, .int .i64 0, .int .i64 0, .int .i64 0, .int .i64 0, .int .i64 0, .int .i64 0, .int .i64 0, .int .i64 0, .int .i64 0, .int .i64 0, .slice none 0 0] rfl rfl _ _ HO10.out.res (by kernel_rfl) rfl (by simp [Value.oneCell']) ?_))
          refine bodyW2 rfl w.heap.size #[.int .i64 0, .int .i64 0, .int .i64 0, .int .i64 0, .int .i64 0, .int .i64 0, .int .i64 0, .int .i64 0, .int .i64 0, .int .i64 0, .int .i64 0, .int .i64 0, .int .i64 0, .int .i64 0, .int .i64 0, .slice none 0 0] (.bool false) _ rfl rfl (setRow_heap _ _ _ _ _ _ HO10.out.res) Try.underlying58 rfl (by kernel_rfl) rfl ?_
          exact ⟨bRow HO10.out.bel _ (Nat.le_refl _) _, .inl ⟨rfl, rfl⟩⟩
    · have hrb : (r != 1) = true := by rw [bne_iff_ne]; exact hr1
      obtain rfl : ob = false := by
        rw [HOB.out]
        have : (r == 1) = false := by rw [beq_eq_false_iff_ne]; exact hr1
        rw [this]; rfl
      clear hr1
      go_wp2_with (first
        | (go_at_call 36; (with_reducible refine (HHs.out _ HOs.out.bel).mono ?_); rintro e w2 ⟨rfl, rfl⟩)
        | ((with_reducible refine at_buildM ?_); refine wpList_buildG rfl _ _ rfl #[.int .i64 0, .int .i64 0, .int .i64 0, .int .i64 0, .int .i64 0, .int .i64 0, .int .i64 0, .int .i64 0, .int .i64 0, .int .i64 0, .int .i64 0, .int .i64 0, .int .i64 0, .int .i64 0, .int .i64 0, .slice none 0 0] (by simp only [List.map_toArray, List.map_nil]; exact Try.builtZ) ?_)
        | ((with_reducible refine at_storeM ?_); refine wpList_store_row rfl _ _ _ rfl _ #[.int .i64 0, .int .i64 0, .int .i64 0, .int .i64 0, .int .i64 0, .int .i64 0, .int .i64 0, .int .i64 0, .int .i64 0, .int .i64 0, .int .i64 0, .int .i64 0, .int .i64 0, .int .i64 0, .int .i64 0, .slice none 0 0] rfl rfl _ _ HOs.out.res (by kernel_rfl) rfl (by simp [Value.oneCell']) ?_))
      refine bodyW2 rfl w.heap.size #[.int .i64 0, .int .i64 0, .int .i64 0, .int .i64 0, .int .i64 0, .int .i64 0, .int .i64 0, .int .i64 0, .int .i64 0, .int .i64 0, .int .i64 0, .int .i64 0, .int .i64 0, .int .i64 0, .int .i64 0, .slice none 0 0] (.bool false) _ rfl rfl (setRow_heap _ _ _ _ _ _ HOs.out.res) Try.underlying58 rfl (by kernel_rfl) rfl ?_
      exact ⟨bRow HOs.out.bel _ (Nat.le_refl _) _, .inl ⟨rfl, rfl⟩⟩

end Go.Proofs.Ytholemjbjmkpkaa
