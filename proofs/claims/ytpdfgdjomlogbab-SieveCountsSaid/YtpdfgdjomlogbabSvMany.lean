/- Rows of streams that are read, and that the law makes; steps. -/
import Derived.Test.YtpdfgdjomlogbabSvOne
import Derived.Test.YtpdfgdjomlogbabS5ArgS
import Derived.Laws.AppendOwnNone
namespace Go.Proofs.Ytpdfgdjomlogbab
open Go.RowKit Go.Joins Go.Deep

theorem Try.infoSm : (Try.prog.info? 28).map (fun i => (i.zero, i.size, i.bytes)) = some (some (.agg (SA default)), 14, 64) := by kernel_rfl
theorem smarg_of {w : World} {v : Value} {n : Nat} (h : SlArg 14 OksieveStream w v n) : ∃ L : List Sm, L.length = n ∧ SmArg w v L := by
  rcases h with ⟨rfl, a, c, rfl, hc⟩ | ⟨h0, b, o, c, F, rfl, hnc, hb, hF⟩
  · exact ⟨[], rfl, .inl ⟨rfl, a, c, rfl, hc⟩⟩
  · have each : ∀ k, k < n → ∃ x : Sm, F k = (SA x).toList := fun k hk => by
      obtain ⟨⟨z0, z1, z2, z3, z4, z5, z6, z7, z8, z9, z10, z11, z12, z13, e, _⟩, _, _⟩ := hF k hk
      exact ⟨⟨z0, z1, ⟨z2, z3, z4, z5, z6, z7⟩, z8, z9, z10, z11, z12, z13⟩, e⟩
    obtain ⟨G, hG⟩ := choose_lt each
    have hlen : ((List.range n).map G).length = n := by simp
    have hget : ∀ k, k < n → ((List.range n).map G).getD k default = G k := fun k hk => by simp [List.getD_eq_getElem?_getD, hk]
    refine ⟨(List.range n).map G, hlen, .inr ⟨by omega, b, o, c, by rw [hlen], hb, by omega, fun k hk j u hu => ?_⟩⟩
    rw [hlen] at hk
    rw [hget k hk, ← hG k hk] at hu
    have hj : j < 14 := by
      have := (List.getElem?_eq_some_iff.1 hu).1
      rw [hG k hk] at this
      simpa [SA_size] using this
    rw [(hF k hk).2.2 j hj]; exact hu
def sv (L : List Sm) : List Value := L.flatMap fun x => (SA x).toList
theorem sv_len (L : List Sm) : (sv L).length = L.length * 14 := flat_len _ 14 (fun f => by simp [SA_size]) L
theorem sv_at (L : List Sm) (k j : Nat) (hk : k < L.length) (hj : j < 14) : (sv L)[k * 14 + j]? = (SA (L.getD k default)).toList[j]? := flat_at _ 14 (fun f => by simp [SA_size]) L k j hk hj
theorem sv_app (L M : List Sm) : sv (L ++ M) = sv L ++ sv M := by unfold sv; rw [List.flatMap_append]
theorem sv_one (L : List Sm) : ∀ u ∈ sv L, u.oneCell' = true := by
  intro u hu
  obtain ⟨x, _, hx⟩ := List.mem_flatMap.1 hu
  have h := SA_one x
  rw [Array.all_eq_true'] at h
  exact h u (by simpa using hx)
theorem addf (b o i : Nat) : (⟨b, o, none⟩ : Addr).add i = ⟨b, o + i, none⟩ := by unfold Addr.add; split <;> simp_all
/-- The law's own row of streams. -/
theorem wpList_appSm {ops : Array Oper} {rest : List Oper} {o : Oper} {a : Act} {w : World} {Q : Exit → Act → World → Prop} (hgd : o.guard = none) (s x : Operand)
    (ho : o.op = .call { callee := .builtin .append, args := #[s, x], argTypes := #[22, 22] })
    (B : Nat) (v u : Value) (M L : List Sm) (hs : a.eval s = v) (hx : a.eval x = u) (hown : w.ownsRow B 28 14 v M.length (sv M)) (hB : B ≤ w.heap.size) (harg : SmArg w u L) (hl : M.length + L.length ≤ 1000) (hne : v ≠ .slice none 0 0)
    (h : ∀ v' w', w'.ownsRow B 28 14 v' (M ++ L).length (sv (M ++ L)) → v' ≠ .slice none 0 0 → Below B w w' → wpList Try.prog ops Q rest (a.put o.dst v') w') : wpList Try.prog ops Q (o :: rest) a w := by
  obtain ⟨i0, hi, hz0, hz1, hz2⟩ := info_parts Try.infoSm
  have hbel : ∀ w', w.grownBy w' v.ownBlock → Below B w w' := fun w' hg => ⟨hg.os, hg.tape, hg.output, hg.size, fun k hk => hg.block k (by omega) (fun e => by have := (row_lt hown e.symm).1; omega)⟩
  have key : ∀ ad m c, u = .slice (some ad) m c → m = L.length → (∀ j e, (sv L)[j]? = some e → w.cell? (ad.add j) = some e) → wpList Try.prog ops Q (o :: rest) a w := by
    intro ad m c hu hm hc
    subst hm
    refine wpList_append_own _ hgd s x 22 ho B 28 i0 _ 14 64 Try.underlying22 hi hz0 hz1 hz2 rfl (by decide) v M.length (sv M) hs hown ad L.length c (sv L) (hx.trans hu) (sv_len _) hc (sv_one _) (by unfold maxLen; omega) (by omega) hB ?_
    intro v' w' h1 h2 h3
    rw [← sv_app, ← List.length_append] at h1
    exact h v' w' h1 (fun e => hne (h3.1 e).1) (hbel w' h2)
  rcases harg with ⟨rfl, p, c, rfl, hp⟩ | ⟨h0, b, o', c, rfl, hg, hc, hr⟩
  · cases p with
    | some ad => exact key ad 0 c rfl rfl (fun j e he => by simp [sv] at he)
    | none =>
      obtain rfl := hp rfl
      refine wpList_append_own_none hgd s x 22 ho B 28 i0 14 Try.underlying22 hi v M.length (sv M) hs hown hx ?_
      refine h v w (by simpa using hown) hne (Below.refl _ _)
  · refine key _ _ c rfl rfl (fun j e he => ?_)
    have hj : j < L.length * 14 := by
      have := (List.getElem?_eq_some_iff.1 he).1
      rwa [sv_len] at this
    rw [addf, show o' + j = o' + j / 14 * 14 + j % 14 by omega]
    have hs := sv_at L (j / 14) (j % 14) (by omega) (by omega)
    rw [show j / 14 * 14 + j % 14 = j by omega, he] at hs
    exact hr (j / 14) (by omega) (j % 14) e hs.symm
theorem smarg_row {W : World} {B : Nat} {v : Value} {L : List Sm} (h : W.ownsRow B 28 14 v L.length (sv L)) : SmArg W v L := by
  rcases h.2 with ⟨rfl, hz⟩ | ⟨g, cap, cur, rfl, hb, hg, hn, _, hs, hcur⟩
  · exact .inl ⟨List.eq_nil_of_length_eq_zero hz, none, 0, rfl, fun _ => rfl⟩
  · rcases Nat.eq_zero_or_pos L.length with h0 | h0
    · exact .inl ⟨List.eq_nil_of_length_eq_zero h0, some ⟨g, 0, none⟩, cap, by rw [h0], fun e => by cases e⟩
    · refine .inr ⟨h0, g, 0, cap, rfl, lt_of_heap hg, hn, fun k hk j u hu => ?_⟩
      have hj : j < 14 := by
        have := (List.getElem?_eq_some_iff.1 hu).1
        simpa [SA_size] using this
      rw [Nat.zero_add, h.cellAt (k * 14 + j) (by omega), sv_at L k j hk hj]; exact hu
/-- One of the row's streams alone. -/
theorem smarg_one {W : World} {g o cap n : Nat} {L : List Sm} (h : SmArg W (.slice (some ⟨g, o, none⟩) n cap) L) (hn : n = L.length) {k : Nat} (hk : k < n) (c : Nat) (hc : 1 ≤ c) : SmArg W (.slice (some ⟨g, o + k * 14, none⟩) 1 c) [L.getD k default] := by
  rcases h with ⟨rfl, _⟩ | ⟨h0, g', o', c', e, hg, hcp, hr⟩
  · simp at hn; omega
  · injection e with e1 _ _
    injection e1 with e1
    injection e1 with e1 e2 _
    subst e1 e2
    refine .inr ⟨by simp, g, o + k * 14, c, rfl, hg, hc, fun i hi j u hu => ?_⟩
    have : i = 0 := by simpa using hi
    subst this
    have := hr k (by omega) j u hu
    rw [Nat.zero_mul, Nat.add_zero]
    exact this
theorem AllR.dbl {L : List Sm} (h : AllR L) : AllR (L ++ L) := by
  intro k hk
  rw [List.length_append] at hk
  rcases Nat.lt_or_ge k L.length with q | q
  · rw [List.getD_eq_getElem?_getD, List.getElem?_append_left q, ← List.getD_eq_getElem?_getD]; exact h k q
  · rw [List.getD_eq_getElem?_getD, List.getElem?_append_right q, ← List.getD_eq_getElem?_getD]; exact h (k - L.length) (by omega)
theorem AllR.one {L : List Sm} (h : AllR L) {k : Nat} (hk : k < L.length) : AllR [L.getD k default] := allR_one.2 (h k hk)
theorem getD_map (L : List Sm) {k : Nat} (hk : k < L.length) : (L.map fl0).getD k default = fl0 (L.getD k default) := by
  simp [List.getD_eq_getElem?_getD, hk]
/-- Which stream is found, or none. -/
theorem find_cases (L : List Sm) (p v : Int) (d s : M6) : (findI (L.map fl0) p v d s = -1 ∧ ∀ k, k < L.length → ¬ Fits (L.getD k default) p v d s) ∨
    ∃ i : Nat, i < L.length ∧ findI (L.map fl0) p v d s = (i : Int) ∧ Fits (L.getD i default) p v d s ∧ ∀ k, k < i → ¬ Fits (L.getD k default) p v d s := by
  unfold findI firstI
  rw [List.length_map]
  cases hf : search (fun k => decide (Fits ((L.map fl0).getD k default).st p v d s)) 0 L.length with
  | none =>
    refine .inl ⟨rfl, fun k hk => ?_⟩
    have := search_none _ _ hf k (Nat.zero_le _) (by omega)
    rw [getD_map L hk] at this
    exact of_decide_eq_false this
  | some i =>
    obtain ⟨_, h2, h3, h4⟩ := search_some _ _ hf
    refine .inr ⟨i, by omega, rfl, ?_, fun k hk => ?_⟩
    · rw [getD_map L (by omega)] at h3; exact of_decide_eq_true h3
    · have := h4 k (Nat.zero_le _) hk
      rw [getD_map L (by omega)] at this
      exact of_decide_eq_false this
theorem find_is {L : List Sm} {p v : Int} {d s : M6} {i : Nat} (hi : i < L.length) (h : Fits (L.getD i default) p v d s) (hno : ∀ k, k < i → ¬ Fits (L.getD k default) p v d s) : findI (L.map fl0) p v d s = (i : Int) := by
  unfold findI
  rw [List.length_map]
  refine firstI_some hi ?_ fun k hk => ?_
  · rw [getD_map L hi]; exact decide_eq_true h
  · rw [getD_map L (by omega)]; exact decide_eq_false (hno k hk)
theorem find_isnt {L : List Sm} {p v : Int} {d s : M6} (hno : ∀ k, k < L.length → ¬ Fits (L.getD k default) p v d s) : findI (L.map fl0) p v d s = -1 := by
  unfold findI
  rw [List.length_map]
  refine firstI_none fun k hk => ?_
  rw [getD_map L hk]; exact decide_eq_false (hno k hk)
theorem find_dbl (L : List Sm) (p v : Int) (d s : M6) : findI ((L ++ L).map fl0) p v d s = findI (L.map fl0) p v d s := by
  have hl : ∀ k, k < L.length → (L ++ L).getD k default = L.getD k default := fun k hk => by
    rw [List.getD_eq_getElem?_getD, List.getElem?_append_left hk, ← List.getD_eq_getElem?_getD]
  have hr : ∀ k, L.length ≤ k → (L ++ L).getD k default = L.getD (k - L.length) default := fun k hk => by
    rw [List.getD_eq_getElem?_getD, List.getElem?_append_right hk, ← List.getD_eq_getElem?_getD]
  rcases find_cases L p v d s with ⟨h1, h2⟩ | ⟨i, h0, h1, h2, h3⟩
  · rw [h1]
    refine find_isnt fun k hk => ?_
    rw [List.length_append] at hk
    rcases Nat.lt_or_ge k L.length with q | q
    · rw [hl k q]; exact h2 k q
    · rw [hr k q]; exact h2 _ (by omega)
  · rw [h1]
    exact find_is (by rw [List.length_append]; omega) (by rw [hl i h0]; exact h2) fun k hk => by rw [hl k (by omega)]; exact h3 k hk
/-- A step. -/
structure Tp where
  op : Bool
  i : Int
  now : Int
  port : Int
  vid : Int
  dst : M6
  src : M6
  prio : Int
  size : Int
def TA (t : Tp) : Array Value := #[.bool t.op, .int .i64 t.i, .int .i64 t.now, .int .i64 t.port, .int .i64 t.vid, .int .u8 t.dst.x0, .int .u8 t.dst.x1, .int .u8 t.dst.x2, .int .u8 t.dst.x3, .int .u8 t.dst.x4, .int .u8 t.dst.x5, .int .u8 t.src.x0, .int .u8 t.src.x1, .int .u8 t.src.x2, .int .u8 t.src.x3, .int .u8 t.src.x4, .int .u8 t.src.x5, .int .i64 t.prio, .int .i64 t.size]
/-- The step's box, and all below it. -/
structure TB (w : World) (t : Tp) (W : World) : Prop where
  bx : W.heap[w.heap.size]? = some (.cells (TA t) 34 (0, 0))
  bel : Below w.heap.size w W
theorem TB.below {w W W' : World} {t : Tp} (h : TB w t W) (hb : Below W.heap.size W W') : TB w t W' := ⟨(hb.block _ (lt_of_heap h.bx)).trans h.bx, bTr h.bel hb⟩
theorem TB.belowN {w W W' : World} {t : Tp} {N : Nat} (h : TB w t W) (hb : Below N W W') (hN : w.heap.size < N) : TB w t W' := ⟨(hb.block _ hN).trans h.bx, h.bel.trans (hb.mono (by omega))⟩
theorem TB.lt {w W : World} {t : Tp} (h : TB w t W) : w.heap.size < W.heap.size := lt_of_heap h.bx
theorem TB.new (w : World) (t : Tp) : TB w t (w.alloc (.cells (TA t) 34)) := ⟨heap_alloc_one w _, bAl (bRef w) _⟩
theorem TB.pv {w W : World} {t : Tp} (h : TB w t W) : W.cell? ⟨w.heap.size, 3, none⟩ = some (.int .i64 t.port) ∧ W.cell? ⟨w.heap.size, 4, none⟩ = some (.int .i64 t.vid) := ⟨cell_of_row _ _ 3 _ _ _ h.bx, cell_of_row _ _ 4 _ _ _ h.bx⟩
theorem TB.d {w W : World} {t : Tp} (h : TB w t W) : W.cell? ⟨w.heap.size, 5, none⟩ = some (.int .u8 t.dst.x0) ∧ W.cell? ⟨w.heap.size, 6, none⟩ = some (.int .u8 t.dst.x1) ∧ W.cell? ⟨w.heap.size, 7, none⟩ = some (.int .u8 t.dst.x2) ∧ W.cell? ⟨w.heap.size, 8, none⟩ = some (.int .u8 t.dst.x3) ∧ W.cell? ⟨w.heap.size, 9, none⟩ = some (.int .u8 t.dst.x4) ∧ W.cell? ⟨w.heap.size, 10, none⟩ = some (.int .u8 t.dst.x5) :=
  ⟨cell_of_row _ _ 5 _ _ _ h.bx, cell_of_row _ _ 6 _ _ _ h.bx, cell_of_row _ _ 7 _ _ _ h.bx, cell_of_row _ _ 8 _ _ _ h.bx, cell_of_row _ _ 9 _ _ _ h.bx, cell_of_row _ _ 10 _ _ _ h.bx⟩
theorem TB.s {w W : World} {t : Tp} (h : TB w t W) : W.cell? ⟨w.heap.size, 11, none⟩ = some (.int .u8 t.src.x0) ∧ W.cell? ⟨w.heap.size, 12, none⟩ = some (.int .u8 t.src.x1) ∧ W.cell? ⟨w.heap.size, 13, none⟩ = some (.int .u8 t.src.x2) ∧ W.cell? ⟨w.heap.size, 14, none⟩ = some (.int .u8 t.src.x3) ∧ W.cell? ⟨w.heap.size, 15, none⟩ = some (.int .u8 t.src.x4) ∧ W.cell? ⟨w.heap.size, 16, none⟩ = some (.int .u8 t.src.x5) :=
  ⟨cell_of_row _ _ 11 _ _ _ h.bx, cell_of_row _ _ 12 _ _ _ h.bx, cell_of_row _ _ 13 _ _ _ h.bx, cell_of_row _ _ 14 _ _ _ h.bx, cell_of_row _ _ 15 _ _ _ h.bx, cell_of_row _ _ 16 _ _ _ h.bx⟩
/-- New of a row whose streams are right, in the words of the laws. -/
theorem newS_yes {v : Value} {L : List Sm} {w : World} (h : SmArg w v L) (hl : L.length ≤ 64) (hr : AllR L) :
    Calls Try.prog 8 #[v, .slice none 0 0, .slice none 0 0, .int .i64 0] w fun e w' => e = .returned (.tuple #[.pointer (some ⟨w.heap.size, 0, none⟩), .int .i64 0]) ∧ ∃ vv, NS w w.heap.size vv (L.map fl0) 0 w' :=
  (newS_any 0 h hl).mono fun _ _ hh => hh.1 hr
theorem newS_no {v : Value} {L : List Sm} {w : World} (h : SmArg w v L) (hl : L.length ≤ 64) (hr : ¬ AllR L) :
    Calls Try.prog 8 #[v, .slice none 0 0, .slice none 0 0, .int .i64 0] w fun e w' => e = .returned (.tuple #[.pointer none, .int .i64 1]) ∧ Below w.heap.size w w' :=
  (newS_any 0 h hl).mono fun _ _ hh => ⟨hh.2.1 hr, hh.2.2⟩

end Go.Proofs.Ytpdfgdjomlogbab
