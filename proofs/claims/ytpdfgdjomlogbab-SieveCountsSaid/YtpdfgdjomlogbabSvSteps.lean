/- Rows of steps that are read; In, Open of a sieve whose streams have neither gates nor meters, by what is counted. -/
import Derived.Test.YtpdfgdjomlogbabSvCounts
import Derived.Test.YtpdfgdjomlogbabSvMany
namespace Go.Proofs.Ytpdfgdjomlogbab
open Go.RowKit Go.Joins Go.Deep

instance : Inhabited Tp := ⟨⟨false, 0, 0, 0, 0, M6.zero, M6.zero, 0, 0⟩⟩
theorem TA_size (x : Tp) : (TA x).size = 19 := rfl
theorem TA_one (x : Tp) : (TA x).all (·.oneCell') = true := by simp [TA, Value.oneCell']
def TpArg (W : World) (v : Value) (L : List Tp) : Prop :=
  (L = [] ∧ ∃ a c, v = .slice a 0 c) ∨ (0 < L.length ∧ ∃ g o cap, v = .slice (some ⟨g, o, none⟩) L.length cap ∧ g < W.heap.size ∧ ∀ k, k < L.length → ∀ j u, (TA (L.getD k default)).toList[j]? = some u → W.cell? ⟨g, o + k * 19 + j, none⟩ = some u)
theorem TpArg.slice {W : World} {v : Value} {L : List Tp} (h : TpArg W v L) : ∃ p c, v = .slice p L.length c := by
  rcases h with ⟨rfl, p, c, rfl⟩ | ⟨_, g, o, c, rfl, _⟩
  · exact ⟨p, c, rfl⟩
  · exact ⟨_, c, rfl⟩
theorem TpArg.below {w W W' : World} {v : Value} {L : List Tp} (h : TpArg W v L) (hw : W.heap.size = w.heap.size) (hb : Below w.heap.size W W') : TpArg W' v L := by
  rcases h with h | ⟨h0, g, o, c, e, hg, hr⟩
  · exact .inl h
  · exact .inr ⟨h0, g, o, c, e, Nat.lt_of_lt_of_le hg hb.size, fun k hk j u hu => (hb.cell (by show g < w.heap.size; omega)).trans (hr k hk j u hu)⟩
theorem tparg_of {w : World} {v : Value} {n : Nat} (h : SlArg 19 Oksandglasslaw12Step w v n) : ∃ L : List Tp, L.length = n ∧ TpArg w v L := by
  rcases h with ⟨rfl, a, c, rfl, hc⟩ | ⟨h0, b, o, c, F, rfl, hnc, hb, hF⟩
  · exact ⟨[], rfl, .inl ⟨rfl, a, c, rfl⟩⟩
  · have each : ∀ k, k < n → ∃ x : Tp, F k = (TA x).toList := fun k hk => by
      obtain ⟨⟨z0, z1, z2, z3, z4, z5, z6, z7, z8, z9, z10, z11, z12, z13, z14, z15, z16, z17, z18, e, _⟩, _, _⟩ := hF k hk
      exact ⟨⟨z0, z1, z2, z3, z4, ⟨z5, z6, z7, z8, z9, z10⟩, ⟨z11, z12, z13, z14, z15, z16⟩, z17, z18⟩, e⟩
    obtain ⟨G, hG⟩ := choose_lt each
    have hlen : ((List.range n).map G).length = n := by simp
    have hget : ∀ k, k < n → ((List.range n).map G).getD k default = G k := fun k hk => by simp [List.getD_eq_getElem?_getD, hk]
    refine ⟨(List.range n).map G, hlen, .inr ⟨by omega, b, o, c, by rw [hlen], hb, fun k hk j u hu => ?_⟩⟩
    rw [hlen] at hk
    rw [hget k hk, ← hG k hk] at hu
    have hj : j < 19 := by
      have := (List.getElem?_eq_some_iff.1 hu).1
      rw [hG k hk] at this
      simpa [TA_size] using this
    rw [(hF k hk).2.2 j hj]; exact hu
theorem at_loadTp {ops : Array Oper} {rest : List Oper} {d : Option Tmp} {x : Operand} {t : TypeId} {s : String} {af : Array Edge} {a : Act} {w : World} {Q : Exit → Act → World → Prop}
    (h : wpList Try.prog ops Q (⟨d, .load 34 x, t, s, af, none⟩ :: rest) a w) : wpList Try.prog ops Q (⟨d, .load 34 x, t, s, af, none⟩ :: rest) a w := h
theorem wpList_loadTp {ops : Array Oper} {rest : List Oper} {o : Oper} {a : Act} {w : World} {Q : Exit → Act → World → Prop} (hgd : o.guard = none) (x : Operand) (ho : o.op = .load 34 x)
    (g off : Nat) (hx : a.eval x = .pointer (some ⟨g, off, none⟩)) (y : Tp) (hc : ∀ j v, (TA y).toList[j]? = some v → w.cell? ⟨g, off + j, none⟩ = some v)
    (h : wpList Try.prog ops Q rest (a.put o.dst (.agg (TA y))) w) : wpList Try.prog ops Q (o :: rest) a w :=
  wpList_load_part hgd _ x ho g off hx (TA y) _ hc Try.underlying34 rfl (by rw [TA_size]; kernel_rfl) h
theorem at_storeTp {ops : Array Oper} {rest : List Oper} {d : Option Tmp} {x y : Operand} {t : TypeId} {s : String} {af : Array Edge} {a : Act} {w : World} {Q : Exit → Act → World → Prop}
    (h : wpList Try.prog ops Q (⟨d, .store 34 x y, t, s, af, none⟩ :: rest) a w) : wpList Try.prog ops Q (⟨d, .store 34 x y, t, s, af, none⟩ :: rest) a w := h
theorem wpList_storeTp {ops : Array Oper} {rest : List Oper} {o : Oper} {a : Act} {w : World} {Q : Exit → Act → World → Prop} (hgd : o.guard = none) (x y : Operand) (ho : o.op = .store 34 x y)
    (m : Tp) (old : Array Value) (hx : a.eval x = .pointer (some ⟨w.heap.size, 0, none⟩)) (hy : a.eval y = .agg (TA m)) (hold : old.size = 19)
    (h : wpList Try.prog ops Q rest (a.put o.dst undef) (w.alloc (.cells (TA m) 34))) : wpList Try.prog ops Q (o :: rest) a (w.alloc (.cells old 34)) :=
  wpList_store_row hgd 34 x y ho w.heap.size (TA m) hx hy 34 old (heap_alloc_one w _) (by rw [TA_size]; kernel_rfl) (by rw [hold, TA_size]) (TA_one m) (by rw [setRow_new]; exact h)
/-- A step's box. -/
def SBx (W : World) (r : Nat) (t : Tp) : Prop := W.heap[r]? = some (.cells (TA t) 34 (0, 0))
def Free (S : List Sm) : Prop := ∀ k, k < S.length → (S.getD k default).gate = -1 ∧ (S.getD k default).rate = -1
theorem SBx.two {w W W' : World} {b r g n cap : Nat} {t : Tp} {L : List Fl} {oth : Int} (h : SBx W r t) (hn : NS w b (.slice (some ⟨g, 0, none⟩) n cap) L oth W) (h2 : TwoB b g W W') : SBx W' r t := by
  refine (h2.block r (lt_of_heap h) ?_ ?_).trans h
  · rintro rfl
    have := h.symm.trans hn.box
    simp at this
  · rintro rfl
    rcases hn.row.2 with ⟨e, _⟩ | ⟨g', cap', cur, e, _, hg, _⟩
    · simp at e
    · injection e with e1 _ _
      injection e1 with e1
      injection e1 with e1 _ _
      subst e1
      have := h.symm.trans hg
      simp at this
theorem SBx.free {w W W' : World} {b r : Nat} {t : Tp} {vv : Value} {L : List Fl} {oth : Int} (h : SBx W r t) (hn : NS w b vv L oth W) (h2 : ∀ g, TwoB b g W W') : SBx W' r t := by
  refine ((h2 (r + 1)).block r (lt_of_heap h) ?_ (by omega)).trans h
  rintro rfl
  have := h.symm.trans hn.box
  simp at this
def InP (S : List Sm) (w : World) (b m : Nat) (vv : Value) (W w' : World) : Prop := (∃ L oth, NS w b vv L oth w' ∧ Cz S L oth (m + 1)) ∧ ∀ r t, SBx W r t → SBx w' r t
theorem in_ways {S : List Sm} {w W : World} {b m : Nat} {vv : Value} {L : List Fl} {oth : Int} (h : NS w b vv L oth W) (hz : Cz S L oth m) (hS : Free S) (hm : m ≤ 80) (hl : S.length ≤ 30) (now p v : Int) (d s : M6) (prio size : Int) :
    (∃ pr : Int, Calls Try.prog 10 #[.pointer (some ⟨b, 0, none⟩), .int .i64 now, .int .i64 p, .int .i64 v, MV d, MV s, .int .i64 prio, .int .i64 size] W fun e w' => e = .returned (.tuple #[.int .i64 (-1), .int .i64 pr, .bool false, .int .i64 1]) ∧ InP S w b m vv W w') ∨
    ∃ (k : Nat) (pr what : Int), k < S.length ∧ (what = 0 ∨ what = 2 ∨ what = 5) ∧ (what = 0 → 0 < (S.getD k default).max → size ≤ (S.getD k default).max) ∧
      Calls Try.prog 10 #[.pointer (some ⟨b, 0, none⟩), .int .i64 now, .int .i64 p, .int .i64 v, MV d, MV s, .int .i64 prio, .int .i64 size] W fun e w' => e = .returned (.tuple #[.int .i64 (k : Int), .int .i64 pr, .bool false, .int .i64 what]) ∧ InP S w b m vv W w' := by
  have hln := hz.len
  rcases findI_lt L p v d s with hi | ⟨k, hk, hi⟩
  · exact .inl ⟨prio, (in_none h (by omega) now p v d s prio size hi).mono fun e w' ⟨he, h1, h2⟩ => ⟨he, ⟨_, _, h1, hz.other hm⟩, fun r t ht => ht.free h h2⟩⟩
  · obtain ⟨g, cap, rfl, hcap⟩ := h.pos (by omega)
    have hst := hz.st k (by omega)
    obtain ⟨q1, q2⟩ := hS k (by omega)
    refine .inr ⟨k, _, _, by omega, passV_three (L.getD k default) size, fun h0 hx => ?_, (in_some h rfl hcap (by omega) hk _ rfl (by rw [hst]; exact q1) (by rw [hst]; exact q2) now p v d s prio size hi).mono fun e w' ⟨he, h1, h2⟩ => ⟨he, ⟨_, _, h1, hz.frame hm (by omega) size⟩, fun r t ht => ht.two h h2⟩⟩
    rw [← hst] at hx ⊢
    unfold passV at h0
    split at h0
    · simp at h0
    · split at h0
      · simp at h0
      · next hn => exact Int.not_lt.1 fun hlt => hn ⟨by omega, hlt⟩
theorem open_any {S : List Sm} {w W : World} {b m : Nat} {vv : Value} {L : List Fl} {oth : Int} (h : NS w b vv L oth W) (hz : Cz S L oth m) (hS : Free S) (i : Int) :
    Calls Try.prog 9 #[.pointer (some ⟨b, 0, none⟩), .int .i64 i] W fun e w' => ∃ x, e = .returned (.int .i64 x) ∧ ∃ L' oth', NS w b vv L' oth' w' ∧ Cz S L' oth' m := by
  have hln := hz.len
  by_cases hi : 0 ≤ i ∧ i < L.length
  · obtain ⟨k, rfl⟩ := Int.eq_ofNat_of_zero_le hi.1
    obtain ⟨g, cap, rfl, hcap⟩ := h.pos (by omega)
    have hst := hz.st k (by omega)
    obtain ⟨_, q2⟩ := hS k (by omega)
    exact (open_some h rfl hcap (k := k) (by omega) _ rfl (by rw [hst]; exact q2)).mono fun e w' ⟨he, h1, _⟩ => ⟨0, he, _, _, h1, hz.opened (by omega)⟩
  · exact (open_none h i hi).mono fun e w' ⟨he, h1, _⟩ => ⟨5, he, _, _, h1, hz⟩
theorem NS.base {w w0 W : World} {b : Nat} {v : Value} {L : List Fl} {oth : Int} (h : NS w0 b v L oth W) (hb : Below w.heap.size w w0) : NS w b v L oth W := ⟨h.box, h.row, hb.trans (h.bel.mono hb.size), Nat.le_trans hb.size h.bb⟩

end Go.Proofs.Ytpdfgdjomlogbab
