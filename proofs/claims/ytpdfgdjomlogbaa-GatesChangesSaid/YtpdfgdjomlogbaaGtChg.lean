/- What the law keeps of a gate whose list is changed: in plain numbers, and in memory. -/
import Derived.Test.YtpdfgdjomlogbaaGtSame
import Derived.Test.YtpdfgdjomlogbaaGtRef6
namespace Go.Proofs.Ytpdfgdjomlogbaa
open Go.RowKit Go.Joins

theorem rturn_any {b c : Int} {sl : Value} {ts : List (Int × Int)} (x : Int) (hz : chkV b c ts = 0) (hx : inT x) :
    Ret 25 #[LV b c sl, .int .i64 x] (.int .i64 (turnV b c ts x).1) := fun w => by
  have hg := chk_good hz
  have ht : Tells b c ts x := ⟨hx, hz⟩
  have HG := Lib.hid (phase_any b c sl x hg.b0 hg.b1 ⟨hg.c0, hg.c1⟩ hx)
  have hgb := gone_bd (b := b) x hg.c0
  have HL0 := Lib.hid (RB.new w b c sl)
  obtain ⟨l0, l1, l2⟩ := HL0.out.cells
  have hx1 := hx.1
  have hx2 := hx.2
  have hc1 := hg.c1
  have hv : (turnV b c ts x).1 = if gone b c x = 0 then x else x + c - gone b c x := by
    unfold turnV
    rw [if_pos ht]
    by_cases h : 0 < gone b c x
    · rw [if_pos h, if_neg (by omega)]; show x + (c - gone b c x) = _; omega
    · rw [if_neg h, if_pos (by omega)]
  rw [hv]
  generalize gone b c x = g at *
  clear hg ht hv
  by_cases h0 : g = 0
  · subst h0
    rw [if_pos rfl]
    clear hgb hx hx1 hx2 hc1
    go_enter Try.func25, Try.ntmps25
    go_wp2_with (go_at_call 32; (with_reducible refine (HG.out.go _).mono ?_); rintro e w1 ⟨rfl, hb⟩; have HL1 := Lib.hid (HL0.out.below hb); have HB1 := Lib.hid (bTr (bAl (bRef w) (.cells #[.int .i64 b, .int .i64 c, sl] 30)) hb); obtain ⟨m0, m1, m2⟩ := HL1.out.cells; clear hb)
    go_ret
    exact ⟨rfl, HB1.out⟩
  · rw [if_neg h0]
    have d1 : (g == 0) = false := by rw [beq_eq_false_iff_ne]; exact h0
    have y1 : wrap64 (x + c) = x + c := by unfold wrap64; omega
    have y2 : wrap64 (x + c - g) = x + c - g := by unfold wrap64; omega
    clear hgb hx hx1 hx2 hc1 h0
    go_enter Try.func25, Try.ntmps25
    go_wp2_with (go_at_call 32; (with_reducible refine (HG.out.go _).mono ?_); rintro e w1 ⟨rfl, hb⟩; have HL1 := Lib.hid (HL0.out.below hb); have HB1 := Lib.hid (bTr (bAl (bRef w) (.cells #[.int .i64 b, .int .i64 c, sl] 30)) hb); obtain ⟨m0, m1, m2⟩ := HL1.out.cells; clear hb)
    go_ret
    exact ⟨by first | rfl | (rw [y2]; rfl), HB1.out⟩

/-- A list's slots lie neither at the gate nor at the law's two lists, and were there at N. -/
def TN (W : World) (k N : Nat) (v : Value) (ts : List (Int × Int)) : Prop := TArg W v ts ∧ (0 < ts.length → ∃ b, v.ownBlock = some b ∧ (b < k ∨ k + 3 ≤ b) ∧ b < N)
theorem TN.keep {W W' : World} {k N : Nat} {v : Value} {ts : List (Int × Int)} (h : TN W k N v ts) (hs : W.heap.size ≤ W'.heap.size) (hk : ∀ b, b < N → (b < k ∨ k + 3 ≤ b) → W'.heap[b]? = W.heap[b]?) : TN W' k N v ts := by
  refine ⟨h.1.keep hs fun h0 b e => ?_, h.2⟩
  obtain ⟨b', e', h1, h2⟩ := h.2 h0
  rw [e] at e'
  injection e' with e'
  subst e'
  exact hk b h2 h1
theorem TN.mono {W : World} {k N M : Nat} {v : Value} {ts : List (Int × Int)} (h : TN W k N v ts) (hn : N ≤ M) : TN W k M v ts := by
  refine ⟨h.1, fun h0 => ?_⟩
  obtain ⟨b, e, h1, h2⟩ := h.2 h0
  exact ⟨b, e, h1, by omega⟩
structure CP where
  g : GS
  b1 : Int
  c1 : Int
  sn : Value
  ts1 : List (Int × Int)
  b2 : Int
  c2 : Int
  sc : Value
  ts2 : List (Int × Int)
  fr : Int
  wt : Bool
  N : Nat
structure CI (w : World) (k : Nat) (P : CP) (W : World) : Prop where
  bel : Below w.heap.size w W
  kk : w.heap.size < k
  kn : k + 3 ≤ P.N
  nw : P.N ≤ W.heap.size
  sl : P.g.Sl
  eb : P.g.b1 = P.b1
  ec : P.g.c1 = P.c1
  t1 : TN W k P.N P.g.s1 P.ts1
  l1 : P.ts1.length ≤ 70
  an : TArg w P.sn P.ts1
  ac : TArg w P.sc P.ts2
  l2 : P.ts2.length ≤ 70
  ew : P.g.wt = P.wt
  due : P.wt = true → P.g.b2 = P.b2 ∧ P.g.c2 = P.c2 ∧ P.g.fr = P.fr ∧ TN W k P.N P.g.s2 P.ts2
def CP.isDue (P : CP) (x : Int) : Prop := P.wt = true ∧ P.fr ≤ x
instance (P : CP) (x : Int) : Decidable (P.isDue x) := by unfold CP.isDue; infer_instance
def CP.turn (P : CP) (x : Int) : CP := if P.isDue x then { P with g := P.g.turn x, b1 := P.b2, c1 := P.c2, sn := P.sc, ts1 := P.ts2, wt := false } else { P with g := P.g.turn x }
def CP.put (P : CP) (b c : Int) (sl' sl : Value) (ts : List (Int × Int)) (t : Int) (N : Nat) : CP := { P with g := ⟨P.g.b1, P.g.c1, P.g.s1, b, c, sl', t, true⟩, b2 := b, c2 := c, sc := sl, ts2 := ts, fr := t, wt := true, N := N }
section
variable {w W W' : World} {k : Nat} {P : CP}
theorem CI.gdue (h : CI w k P W) (x : Int) : P.g.due x ↔ P.isDue x := by
  unfold GS.due CP.isDue
  rw [h.ew]
  exact ⟨fun ⟨a, b⟩ => ⟨a, by rw [← (h.due a).2.2.1]; exact b⟩, fun ⟨a, b⟩ => ⟨a, by rw [(h.due a).2.2.1]; exact b⟩⟩
theorem CP.turn_yes {x : Int} (h : P.isDue x) : P.turn x = { P with g := P.g.turn x, b1 := P.b2, c1 := P.c2, sn := P.sc, ts1 := P.ts2, wt := false } := if_pos h
theorem CP.turn_no {x : Int} (h : ¬ P.isDue x) : P.turn x = { P with g := P.g.turn x } := if_neg h
theorem CP.turn_g (P : CP) (x : Int) : (P.turn x).g = P.g.turn x := by unfold CP.turn; split <;> rfl
theorem CP.turn_N (P : CP) (x : Int) : (P.turn x).N = P.N := by unfold CP.turn; split <;> rfl
theorem CI.turn (h : CI w k P W) (x : Int) : CI w k (P.turn x) W := by
  by_cases hd : P.isDue x
  · have hg : P.g.turn x = ⟨P.g.b2, P.g.c2, P.g.s2, 0, 0, .slice none 0 0, 0, false⟩ := if_pos ((h.gdue x).2 hd)
    obtain ⟨d1, d2, d3, d4⟩ := h.due hd.1
    rw [CP.turn_yes hd, hg]
    exact ⟨h.bel, h.kk, h.kn, h.nw, ⟨h.sl.2, _, _, _, rfl⟩, d1, d2, d4, h.l2, h.ac, h.ac, h.l2, rfl, fun e => by cases e⟩
  · have hg : P.g.turn x = P.g := if_neg (fun e => hd ((h.gdue x).1 e))
    rw [CP.turn_no hd, hg]
    exact h
theorem CI.keep (h : CI w k P W) (hb : Below w.heap.size W W') (hn : P.N ≤ W'.heap.size) (hk : ∀ b, b < P.N → (b < k ∨ k + 3 ≤ b) → W'.heap[b]? = W.heap[b]?) : CI w k P W' :=
  ⟨h.bel.trans hb, h.kk, h.kn, hn, h.sl, h.eb, h.ec, h.t1.keep hb.size hk, h.l1, h.an, h.ac, h.l2, h.ew, fun e => ⟨(h.due e).1, (h.due e).2.1, (h.due e).2.2.1, (h.due e).2.2.2.keep hb.size hk⟩⟩
theorem CI.belowN (h : CI w k P W) (hb : Below P.N W W') : CI w k P W' := h.keep (hb.mono (by have := h.kk; have := h.kn; omega)) (Nat.le_trans h.nw hb.size) fun b hl _ => hb.block b hl
theorem CI.below (h : CI w k P W) (hb : Below W.heap.size W W') : CI w k P W' := h.belowN (hb.mono h.nw)
theorem CI.but (h : CI w k P W) {j : Nat} (hb : ButB j W W') (hj : k ≤ j ∧ j < k + 3) : CI w k P W' :=
  h.keep (hb.below (by have := h.kk; omega) (by have := h.kn; have := h.nw; omega)) (Nat.le_trans h.nw hb.size) fun b hl ho => hb.block b (by have := h.nw; omega) (by omega)
theorem CI.put (h : CI w k P W) {b c : Int} {sl' sl : Value} {ts : List (Int × Int)} (t : Int) (hsl : ∃ p n c, sl' = .slice p n c) (ht : TN W k W.heap.size sl' ts) (ha : TArg w sl ts) (hl : ts.length ≤ 70) : CI w k (P.put b c sl' sl ts t W.heap.size) W :=
  ⟨h.bel, h.kk, Nat.le_trans h.kn h.nw, Nat.le_refl _, ⟨h.sl.1, hsl⟩, h.eb, h.ec, h.t1.mono h.nw, h.l1, h.an, ha, hl, rfl, fun _ => ⟨rfl, rfl, rfl, ht⟩⟩
theorem CI.lt (h : CI w k P W) : k + 3 ≤ W.heap.size := Nat.le_trans h.kn h.nw
theorem CI.off1 (h : CI w k P W) : 0 < P.ts1.length → P.g.s1.ownBlock ≠ some k := fun h0 e => by
  obtain ⟨b, e', ho, _⟩ := h.t1.2 h0
  rw [e] at e'
  injection e' with e'
  omega
/-- An argument's slots lie below the gate. -/
theorem arg_off {v : Value} {ts : List (Int × Int)} (h : TArg w v ts) (hk : w.heap.size < k) : 0 < ts.length → v.ownBlock ≠ some k := fun h0 e => by
  obtain ⟨b, o, c, rfl, _, hr⟩ := h.at h0
  simp [Value.ownBlock] at e
  have := hr.1
  omega
theorem CI.fresh (h : CI w k P W) {v : Value} {ts : List (Int × Int)} (hm : Mine W W' v ts.length) (ht : TArg W' v ts) : TN W' k W'.heap.size v ts := by
  refine ⟨ht, fun h0 => ?_⟩
  obtain ⟨g, cap, cur, rfl, _, hg, hh, _⟩ := hm h0
  exact ⟨g, rfl, .inr (by have := h.lt; omega), lt_of_heap hh⟩
end
theorem CI.init {w W : World} {k : Nat} {b c : Int} {sl : Value} {ts : List (Int × Int)} (h : TArg w sl ts) (hl : ts.length ≤ 70) (hb : Below w.heap.size w W) (hk : w.heap.size < k) (hn : k + 3 ≤ W.heap.size) :
    CI w k ⟨⟨b, c, sl, 0, 0, .slice none 0 0, 0, false⟩, b, c, sl, ts, 0, 0, .slice none 0 0, [], 0, false, k + 3⟩ W := by
  refine ⟨hb, hk, Nat.le_refl _, hn, ⟨?_, _, _, _, rfl⟩, rfl, rfl, ⟨h.below hb, fun h0 => ?_⟩, hl, h, ⟨fun k hk => by simp at hk, .inl ⟨rfl, none, 0, rfl, fun _ => rfl⟩⟩, by simp, rfl, fun e => by cases e⟩
  · obtain ⟨p, c, e⟩ := h.slice; exact ⟨_, _, _, e⟩
  · obtain ⟨b', o, c', rfl, _, hr⟩ := h.at h0
    have := hr.1
    exact ⟨b', rfl, .inl (by omega), by show b' < k + 3; omega⟩

end Go.Proofs.Ytpdfgdjomlogbaa
