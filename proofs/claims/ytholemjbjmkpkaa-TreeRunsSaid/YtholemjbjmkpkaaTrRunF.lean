/- TreeRuns: what was taken was right; the state of a round, whole, and with one of its steps half done. -/
import Derived.Test.YtholemjbjmkpkaaTrRunE
import Derived.Test.YtholemjbjmkpkaaTrLine
namespace Go.Proofs.Ytholemjbjmkpkaa
open Go.RowKit Go.Joins Go.Deep

/-- All that is kept was right. -/
structure Said (t : Ts) : Prop where
  dom : winB 127 [t.dom] = true
  own : t.own.right = true
  vec : ∀ k, k < t.n → (t.ports k).vec.r.right = true ∧ 0 ≤ (t.ports k).vec.steps ∧ (t.ports k).vec.steps ≤ 254
  path : ∀ k, k < t.n → (t.ports k).path.length ≤ 31 ∧ winB 281474976710655 (t.ports k).path = true
theorem Said.set {t : Ts} (h : Said t) (k : Nat) (p : Kp) (h1 : p.vec.r.right = true ∧ 0 ≤ p.vec.steps ∧ p.vec.steps ≤ 254) (h2 : p.path.length ≤ 31 ∧ winB 281474976710655 p.path = true) : Said (t.set k p) := by
  refine ⟨h.dom, h.own, fun i hi => ?_, fun i hi => ?_⟩
  · by_cases e : i = k
    · subst e; rw [show (t.set i p).ports i = p from up1_same _ _ _]; exact h1
    · rw [show (t.set k p).ports i = t.ports i from up1_other _ _ e]; exact h.vec i hi
  · by_cases e : i = k
    · subst e; rw [show (t.set i p).ports i = p from up1_same _ _ _]; exact h2
    · rw [show (t.set k p).ports i = t.ports i from up1_other _ _ e]; exact h.path i hi
theorem fresh_said : (⟨⟨0, 0, 0, 0⟩, 0, 0, 0, 0⟩ : Vc).r.right = true ∧ (0 : Int) ≤ 0 ∧ (0 : Int) ≤ 254 := ⟨by decide, by decide, by decide⟩
theorem fresh_path : ([] : List Int).length ≤ 31 ∧ winB 281474976710655 [] = true := ⟨by decide, rfl⟩
theorem Said.new {dom : Int} {p : Pri} {n : Nat} {most : Int} (h : newB dom p n most = true) : Said (newT dom p n most) := by
  unfold newB at h
  simp only [Bool.and_eq_true, decide_eq_true_eq] at h
  exact ⟨h.1.1, h.1.2, fun k _ => fresh_said, fun k _ => fresh_path⟩
theorem Said.upd {t : Ts} (h : Said t) (at_ : Int) (up : Bool) : Said (t.upd at_ up) := by
  unfold Ts.upd
  split
  · exact h.set _ _ fresh_said fresh_path
  · exact h
theorem right_iff {p : Pri} : p.right = true ↔ (0 ≤ p.one ∧ p.one ≤ 255) ∧ (0 ≤ p.cls ∧ p.cls ≤ 255) ∧ (0 ≤ p.two ∧ p.two ≤ 255) ∧ (0 ≤ p.id ∧ p.id ≤ 281474976710655) := by
  unfold Pri.right
  rw [Bool.and_eq_true, winB_iff, winB_iff]
  constructor
  · rintro ⟨h1, h2⟩
    exact ⟨h2 p.one (by simp), h2 p.cls (by simp), h2 p.two (by simp), h1 p.id (by simp)⟩
  · rintro ⟨h1, h2, h3, h4⟩
    refine ⟨fun x hx => ?_, fun x hx => ?_⟩
    · simp at hx
      rcases hx with rfl | rfl
      · omega
      · exact h4
    · simp at hx
      rcases hx with rfl | rfl | rfl | rfl
      · exact h1
      · exact h2
      · exact h3
      · omega
theorem chk_says {m : Mg} (h : m.chk = 0) : (⟨m.one, m.cls, m.two, m.id⟩ : Pri).right = true ∧ (0 ≤ m.steps ∧ m.steps ≤ 255) ∧ m.path.length ≤ 32 ∧ winB 281474976710655 m.path = true := by
  unfold Mg.chk at h
  split at h
  · split at h
    · rename_i h1
      simp only [Bool.and_eq_true] at h1
      have d := winB_iff.1 h1.1.2
      have c := winB_iff.1 h1.1.1.2
      split at h
      · cases h
      · split at h
        · rename_i h3 h4
          exact ⟨right_iff.2 ⟨d m.one (by simp), d m.cls (by simp), d m.two (by simp), c m.id (by simp)⟩, d m.steps (by simp), by omega, h4⟩
        · cases h
    · cases h
  · cases h
theorem inC_more {t : Ts} {at_ : Int} {m : Mg} (h : t.inC at_ m = 0) : m.steps ≠ 255 ∧ m.path.length ≠ 32 := by
  unfold Ts.inC at h
  split at h
  · split at h
    · split at h
      · omega
      · rename_i h3
        exact ⟨fun e => h3 (.inr (.inr (.inl e))), fun e => h3 (.inr (.inr (.inr e)))⟩
    · omega
  · omega
theorem Said.inT {t : Ts} (h : Said t) (at_ : Int) (m : Mg) (now : Int) : Said (t.inT at_ m now) := by
  unfold Ts.inT
  split
  · rename_i h0
    obtain ⟨c1, c2, c3, c4⟩ := chk_says (inC_zero h0).1
    obtain ⟨d1, d2⟩ := inC_more h0
    exact h.set _ _ ⟨c1, c2.1, by show m.steps ≤ 254; omega⟩ ⟨by show m.path.length ≤ 31; omega, c4⟩
  · exact h
theorem chk_bad {m : Mg} (hb : winB 65535 [m.seq, m.port, m.tp] = false) : m.chk ≠ 0 := by
  unfold Mg.chk
  rw [hb]
  simp only [Bool.and_false, Bool.false_and, Bool.false_eq_true, if_false]
  split
  · decide
  · decide
/-- What is told is right, if its number is. -/
theorem out_chk {t : Ts} (h : Said t) {at_ : Int} (h0 : 0 ≤ at_) (h8 : at_ ≤ 8) (seq now : Int) : (t.outM at_ seq now).chk = 0 ↔ 0 ≤ seq ∧ seq ≤ 65535 := by
  constructor
  · intro hc
    by_cases hs : 0 ≤ seq ∧ seq ≤ 65535
    · exact hs
    · refine absurd hc (chk_bad ?_)
      cases hw : winB 65535 [(t.outM at_ seq now).seq, (t.outM at_ seq now).port, (t.outM at_ seq now).tp] with
      | false => rfl
      | true => exact absurd (winB_iff.1 hw (t.outM at_ seq now).seq (by simp)) hs
  · intro hs
    have key : ((t.best now).r.right = true) ∧ (0 ≤ (if (t.best now).at_ = -1 then 0 else (t.best now).steps + 1) ∧ (if (t.best now).at_ = -1 then 0 else (t.best now).steps + 1) ≤ 255) ∧ ((if (t.best now).at_ = -1 then [] else (t.ports (t.best now).at_.toNat).path) ++ [t.own.id]).length ≤ 32 ∧ winB 281474976710655 ((if (t.best now).at_ = -1 then [] else (t.ports (t.best now).at_.toNat).path) ++ [t.own.id]) = true := by
      have hid := (right_iff.1 h.own).2.2.2
      rcases chs_inv t.own (t.F now) t.n with ⟨_, hb⟩ | ⟨⟨k, hk, _, hb⟩, _⟩
      · have hb : t.best now = own0 t.own := hb
        rw [hb]
        refine ⟨h.own, ?_, by simp [own0], ?_⟩
        · rw [if_pos (show (own0 t.own).at_ = -1 from rfl)]; omega
        · rw [if_pos (show (own0 t.own).at_ = -1 from rfl)]
          exact winB_iff.2 (fun x hx => by simp at hx; subst hx; exact hid)
      · have hb : t.best now = atV (t.ports k).vec k := hb
        have hne : ¬ (atV (t.ports k).vec (k : Int)).at_ = -1 := by show ¬ (k : Int) = -1; omega
        obtain ⟨v1, v2, v3⟩ := h.vec k hk
        obtain ⟨p1, p2⟩ := h.path k hk
        rw [hb, if_neg hne, if_neg hne, show ((atV (t.ports k).vec (k : Int)).at_).toNat = k by show ((k : Int)).toNat = k; omega]
        refine ⟨v1, ?_, ?_, ?_⟩
        · show 0 ≤ (t.ports k).vec.steps + 1 ∧ (t.ports k).vec.steps + 1 ≤ 255
          omega
        · rw [List.length_append]
          show _ + 1 ≤ 32
          omega
        · refine winB_iff.2 (fun x hx => ?_)
          rcases List.mem_append.1 hx with g | g
          · exact winB_iff.1 p2 x g
          · simp at g
            subst g
            exact hid
    obtain ⟨k1, k2, k3, k4⟩ := key
    obtain ⟨r1, r2, r3, r4⟩ := right_iff.1 k1
    have hid := (right_iff.1 h.own).2.2.2
    refine chk_of rfl h.dom ?_ ?_ ?_ rfl (decide_eq_false (Nat.not_lt.2 k3)) k4
    · exact winB_iff.2 (by intro x hx; simp [Ts.outM] at hx; rcases hx with rfl | rfl | rfl <;> omega)
    · exact winB_iff.2 (by intro x hx; simp [Ts.outM] at hx; rcases hx with rfl | rfl | rfl <;> omega)
    · refine winB_iff.2 (fun x hx => ?_)
      have hx' : x ∈ [(t.best now).r.one, (t.best now).r.cls, (t.best now).r.two, (if (t.best now).at_ = -1 then 0 else (t.best now).steps + 1)] := hx
      simp only [List.mem_cons, List.not_mem_nil, or_false] at hx'
      rcases hx' with rfl | rfl | rfl | rfl
      · exact r1
      · exact r2
      · exact r3
      · exact k2
/-- The state at the head of a round. -/
structure StR (w : World) (p : Pri) (b g q mb n : Nat) (dom most : Int) (F : Nat → Ke) (t : Ts) (W : World) : Prop where
  s : RnS w p b g q mb F t W
  dom : t.dom = dom
  most : t.most = most
  n : t.n = n
  said : Said t
/-- .. and once the tree was asked, with the law's list not turned yet. -/
structure MidR (w : World) (p : Pri) (b g q mb n : Nat) (dom most : Int) (F : Nat → Ke) (us : Nat → Value) (t : Ts) (W : World) : Prop where
  bel : Below w.heap.size w W
  own : W.heap[w.heap.size]? = some (.cells #[.int .i64 p.one, .int .i64 p.cls, .int .i64 p.two, .int .i64 p.id] 23 (0, 0))
  mine : W.heap[mb]? = some (.cells #[.int .i64 p.one, .int .i64 p.cls, .int .i64 p.two, .int .i64 p.id, .int .i64 0, .int .i64 0, .int .i64 0, .int .i64 0] 30 (0, 0))
  tr : Tr W b g t
  ks : KsI W q n F us
  ok : t.Ok
  fit : t.Fit
  me : t.own = p
  wh : ∀ k, k < n → -1125899906842624 ≤ (F k).when_ ∧ (F k).when_ ≤ 1125899906842624
  lg : w.heap.size ≤ g
  lq : w.heap.size ≤ q
  dom : t.dom = dom
  most : t.most = most
  n : t.n = n
  said : Said t
section
variable {w W W' : World} {p : Pri} {b g q mb n : Nat} {dom most : Int} {F : Nat → Ke} {us : Nat → Value} {t t' : Ts}
theorem StR.below (h : StR w p b g q mb n dom most F t W) (hb : Below W.heap.size W W') : StR w p b g q mb n dom most F t W' := { h with s := h.s.below hb }
theorem MidR.below (h : MidR w p b g q mb n dom most F us t W) (hb : Below W.heap.size W W') : MidR w p b g q mb n dom most F us t W' :=
  { h with bel := bTr h.bel hb, own := (hb.block _ (lt_of_heap h.own)).trans h.own, mine := (hb.block _ (lt_of_heap h.mine)).trans h.mine, tr := h.tr.below hb, ks := h.ks.below hb }
theorem StR.mid (h : StR w p b g q mb n dom most F t W) (hl : LeaveT b g W t' W') (ok : t'.Ok) (fit : t'.Fit) (me : t'.own = t.own) (dm : t'.dom = t.dom) (ms : t'.most = t.most) (nn : t'.n = t.n) (sd : Said t') : ∃ us, MidR w p b g q mb n dom most F us t' W' := by
  obtain ⟨h1, h2, h3, us, h4⟩ := h.s.set hl
  have en := h.n
  rw [en] at h4
  exact ⟨us, h1, h2.trans h.s.own, h3.trans h.s.mine, hl.1, h4, ok, fit, me.trans h.s.me, fun k hk => h.s.wh k (by omega), h.s.lg, h.s.lq, dm.trans h.dom, ms.trans h.most, nn.trans en, sd⟩
theorem MidR.fin (h : MidR w p b g q mb n dom most F us t W) (tw : ∀ k, k < n → Twin (F k) (t.ports k)) : StR w p b g q mb n dom most F t W := by
  have en := h.n
  exact ⟨⟨h.bel, h.own, h.mine, h.tr, ⟨us, by rw [en]; exact h.ks⟩, fun k hk => tw k (by omega), h.ok, h.fit, h.me, fun k hk => h.wh k (by omega), h.lg, h.lq⟩, h.dom, h.most, h.n, h.said⟩
/-- The law's list turns. -/
theorem MidR.set (h : MidR w p b g q mb n dom most F us t W) {F' : Nat → Ke} {us' : Nat → Value} (hb : ButB q W W') (hk : KsI W' q n F' us') (wh : ∀ k, k < n → -1125899906842624 ≤ (F' k).when_ ∧ (F' k).when_ ≤ 1125899906842624) : MidR w p b g q mb n dom most F' us' t W' := by
  obtain ⟨cs, hc, _⟩ := h.ks.row
  refine { h with bel := hb.from_ h.bel h.lq, own := (hb.block _ (lt_of_heap h.own) (neq_tag h.own hc (by decide))).trans h.own, mine := (hb.block _ (lt_of_heap h.mine) (neq_tag h.mine hc (by decide))).trans h.mine, tr := ?_, ks := hk, wh := wh }
  obtain ⟨ut, ht⟩ := h.tr
  refine ⟨ut, (hb.block _ (lt_of_heap ht.box) (neq_tag ht.box hc (by decide))).trans ht.box, ?_, fun k hk' => (ht.path k hk').keep fun i c fr hi => hb.block i (lt_of_heap hi) (neq_tag hi hc (by decide))⟩
  obtain ⟨cs', h1, h2, h3⟩ := ht.row
  exact ⟨cs', (hb.block _ (lt_of_heap h1) (neq_tag h1 hc (by decide))).trans h1, h2, h3⟩
theorem MidR.qtag (h : MidR w p b g q mb n dom most F us t W) : ∃ cs, W.heap[q]? = some (.cells cs 68 (0, 0)) := by
  obtain ⟨cs, hc, _⟩ := h.ks.row
  exact ⟨cs, hc⟩
end
/-- A box of another type than ports is kept where a tree turns, and of another than the law's list where that turns. -/
theorem box_but {w w' : World} {q x : Nat} (h : ButB q w w') {cs cs' : Array Value} {e e' : TypeId} {fr fr' : Nat × Nat} (hx : w.heap[x]? = some (.cells cs e fr)) (hq : w.heap[q]? = some (.cells cs' e' fr')) (hne : e ≠ e') : w'.heap[x]? = some (.cells cs e fr) :=
  (h.block _ (lt_of_heap hx) (neq_tag hx hq hne)).trans hx
theorem up1_up1 {α : Type} (f : Nat → α) (k : Nat) (a c : α) : up1 (up1 f k a) k c = up1 f k c := by
  funext i
  by_cases e : i = k
  · subst e; rw [up1_same, up1_same]
  · rw [up1_other _ _ e, up1_other _ _ e, up1_other _ _ e]

end Go.Proofs.Ytholemjbjmkpkaa
