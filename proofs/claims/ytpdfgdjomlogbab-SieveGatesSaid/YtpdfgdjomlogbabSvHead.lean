/- The laws' head: the document's example. -/
import Derived.Test.YtpdfgdjomlogbabSvOpen
namespace Go.Proofs.Ytpdfgdjomlogbab
open Go.RowKit Go.Joins

theorem Try.infoI : (Try.prog.info? 3).map (fun i => (i.zero, i.size, i.bytes)) = some (some (.int .i64 0), 1, 8) := by kernel_rfl
def x0 : Sm := ⟨-1, 1, M6.zero, false, -1, -1, 100, true, -1⟩
def szs (k : Nat) : Int := if k = 1 then 101 else 100
def wh (k : Nat) : Int := if k = 0 then 0 else if k = 1 then 2 else 5
def Lk : Nat → List Fl
  | 0 => [fl0 x0]
  | k + 1 => ((Lk k).set 0 (passF ((Lk k).getD 0 default) (szs k))).set 0 (bump (passF ((Lk k).getD 0 default) (szs k)) (passV ((Lk k).getD 0 default) (szs k)))
theorem Lk_len (k : Nat) : (Lk k).length = 1 := by
  induction k with
  | zero => rfl
  | succ k ih => unfold Lk; simp [ih]
theorem Lk_st (k : Nat) (hk : k < 4) : ((Lk k).getD 0 default).st = x0 := by
  match k, hk with
  | 0, _ => rfl
  | 1, _ => rfl
  | 2, _ => rfl
  | 3, _ => rfl
theorem Lk_v (k : Nat) (hk : k < 3) : passV ((Lk k).getD 0 default) (szs k) = wh k := by
  match k, hk with
  | 0, _ => rfl
  | 1, _ => rfl
  | 2, _ => rfl
theorem Lk_find (k : Nat) (hk : k < 3) : findI (Lk k) 0 1 M6.zero M6.zero = ((0 : Nat) : Int) := by
  have hl := Lk_len k
  have hs := Lk_st k (by omega)
  unfold findI
  rw [hl]
  refine firstI_some (by omega) ?_ (fun i hi => by omega)
  rw [hs]
  decide
theorem Lk_right : AllR [x0] := by
  intro k hk
  have : k = 0 := by simpa using hk
  subst this
  show Right x0 0 0
  decide
theorem NS.keepB {w W W' : World} {b N : Nat} {v : Value} {L : List Fl} {oth : Int} (h : NS w b v L oth W) (hb : Below N W W') (hN : b < N) (hv : ∀ k, v.ownBlock = some k → k < N) (hw : w.heap.size ≤ N) : NS w b v L oth W' :=
  ⟨(hb.block b hN).trans h.box, row_keep h.row fun k hk => hb.block k (hv k hk), h.bel.trans (hb.mono hw), h.bb⟩
def iv (k : Nat) : List Value := (List.range k).map fun i => .int .i64 (wh i)
theorem iv_len (k : Nat) : (iv k).length = k := by simp [iv]
theorem iv_succ (k : Nat) : iv (k + 1) = iv k ++ [.int .i64 (wh k)] := by unfold iv; rw [List.range_succ, List.map_append]; rfl
/-- Behind k of the three frames: N is where the law's own rows begin. -/
structure HS (w : World) (b g cap N k : Nat) (ov : Value) (W : World) : Prop where
  ns : NS w b (.slice (some ⟨g, 0, none⟩) 1 cap) (Lk k) 0 W
  row : W.ownsRow N 3 1 ov k (iv k)
  lit : W.heap[N + 1]? = some (.cells #[.int .i64 100, .int .i64 101, .int .i64 100] 3 (0, 0))
  ne : ov.ownBlock ≠ some (N + 1)
  bN : b < N
  gN : g < N
  wN : w.heap.size ≤ N
theorem HS.below {w W W' : World} {b g cap N k : Nat} {ov : Value} (h : HS w b g cap N k ov W) (hb : Below W.heap.size W W') : HS w b g cap N k ov W' :=
  ⟨h.ns.below hb, row_keep h.row fun k hk => hb.block k (row_lt h.row hk).2, (hb.block _ (lt_of_heap h.lit)).trans h.lit, h.ne, h.bN, h.gN, h.wN⟩
theorem HS.in_ {w W W' : World} {b g cap N k : Nat} {ov : Value} (h : HS w b g cap N k ov W) (hn : NS w b (.slice (some ⟨g, 0, none⟩) 1 cap) (Lk (k + 1)) 0 W') (ht : TwoB b g W W') :
    NS w b (.slice (some ⟨g, 0, none⟩) 1 cap) (Lk (k + 1)) 0 W' ∧ W'.ownsRow N 3 1 ov k (iv k) ∧ W'.heap[N + 1]? = some (.cells #[.int .i64 100, .int .i64 101, .int .i64 100] 3 (0, 0)) := by
  have h1 := h.bN
  have h2 := h.gN
  exact ⟨hn, row_keep h.row fun j hj => ht.block j (row_lt h.row hj).2 (by have := (row_lt h.row hj).1; omega) (by have := (row_lt h.row hj).1; omega), (ht.block _ (lt_of_heap h.lit) (by omega) (by omega)).trans h.lit⟩
theorem HS.app {w W W' : World} {b g cap N k : Nat} {ov v' : Value} (hn : NS w b (.slice (some ⟨g, 0, none⟩) 1 cap) (Lk (k + 1)) 0 W) (hr : W.ownsRow N 3 1 ov k (iv k)) (hl : W.heap[N + 1]? = some (.cells #[.int .i64 100, .int .i64 101, .int .i64 100] 3 (0, 0))) (hne : ov.ownBlock ≠ some (N + 1)) (bN : b < N) (gN : g < N) (wN : w.heap.size ≤ N)
    (h1 : W'.ownsRow N 3 1 v' (k + 1) (iv k ++ [.int .i64 (wh k)])) (hg : W.grownBy W' ov.ownBlock) (ha : v'.ownBlock = ov.ownBlock ∨ v'.ownBlock = some W.heap.size) : HS w b g cap N (k + 1) v' W' := by
  have hlt := lt_of_heap hl
  have hb : Below N W W' := ⟨hg.os, hg.tape, hg.output, hg.size, fun j hj => hg.block j (by omega) (fun e => by have := (row_lt hr e.symm).1; omega)⟩
  refine ⟨hn.keepB hb bN (fun j e => by simp [Value.ownBlock] at e; omega) wN, by rw [iv_succ]; exact h1, (hg.block _ hlt (fun e => hne e.symm)).trans hl, ?_, bN, gN, wN⟩
  rcases ha with ha | ha
  · rw [ha]; exact hne
  · rw [ha]; intro e; injection e with e; omega

end Go.Proofs.Ytpdfgdjomlogbab
