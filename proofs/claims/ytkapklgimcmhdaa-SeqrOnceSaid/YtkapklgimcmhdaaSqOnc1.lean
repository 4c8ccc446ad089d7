/- SeqrOnce in plain numbers: each number that comes, a little late at most, is taken once. -/
import Derived.Test.YtkapklgimcmhdaaSqPlain
import Derived.Test.YtkapklgimcmhdaaFdMap
namespace Go.Proofs.Ytkapklgimcmhdaa
open Go.RowKit Go.Joins

theorem mv_bits {c d x : Nat} (hx : x < 64) : bitN (moveN c d) x = 1 ↔ x = 0 ∨ (d ≤ x ∧ bitN c (x - d) = 1) := by
  rw [bitN_iff, bitN_iff]
  unfold moveN
  rw [Nat.testBit_or, show (18446744073709551616 : Nat) = 2 ^ 64 from rfl, Nat.testBit_mod_two_pow]
  rw [show c * 2 ^ d = 2 ^ d * c from Nat.mul_comm _ _, Nat.testBit_two_pow_mul]
  rw [show Nat.testBit 1 x = decide (x = 0) from by
    cases x
    · rfl
    · rename_i n
      rw [Nat.testBit_succ]
      simp]
  simp [hx]
  constructor
  · rintro (⟨h1, h2⟩ | h)
    · exact .inr ⟨h1, h2⟩
    · exact .inl h
  · rintro (h | ⟨h1, h2⟩)
    · exact .inr h
    · exact .inl ⟨h1, h2⟩
theorem one_bit (x : Nat) : bitN 1 x = 1 ↔ x = 0 := by
  rw [bitN_iff, show Nat.testBit 1 x = decide (x = 0) from by
    cases x
    · rfl
    · rename_i n
      rw [Nat.testBit_succ]
      simp]
  simp
theorem or_other {c x k : Nat} (h : x ≠ k) : bitN (c ||| 2 ^ k) x = 1 ↔ bitN c x = 1 := by
  rw [bitN_iff, bitN_iff, Nat.testBit_or, Nat.testBit_two_pow_of_ne (fun e => h e.symm), Bool.or_false]
theorem mv_ne (c d : Nat) : moveN c d ≠ 0 := by
  intro h
  have := (mv_bits (c := c) (d := d) (x := 0) (by omega)).2 (.inl rfl)
  rw [h] at this
  simp [bitN] at this
theorem or_ne (c k : Nat) : c ||| 2 ^ k ≠ 0 := by
  intro h
  have e := bitN_or c k
  rw [h] at e
  simp [bitN] at e

/-- What the law's two maps say, and what of the sequencer never changes. -/
structure On (m : SQ) (C : List (Int × Bool)) (T : List (Int × Int)) : Prop where
  g : m.Good
  way : m.way = 0
  len : 16 ≤ m.len
  reset : m.reset = 1099511627776
  w0 : 0 ≤ m.when
  w1 : m.when ≤ 1000
  ct : ∀ x, (lookL C x = none ∧ lookL T x = none) ∨ (lookL C x = some true ∧ lookL T x = some 1)
structure Top (m : SQ) (F : Int) (C : List (Int × Bool)) (top : Int) : Prop where
  come : m.come ≠ 0
  last : m.last = (F + top) % 65536
  t0 : 0 ≤ top
  up : ∀ x, lookL C x ≠ none → 0 ≤ x ∧ x ≤ top
  bit : ∀ j : Nat, (j : Int) < m.len → (bitN m.come j = 1 ↔ lookL C (top - j) ≠ none)
/-- At number k: whether lo = 0 or 1 more than the greatest. -/
def Mid (m : SQ) (F : Int) (C : List (Int × Bool)) (T : List (Int × Int)) (k hi : Int) : Prop :=
  On m C T ∧ ((m.come = 0 ∧ (∀ x, lookL C x = none) ∧ k ≤ 7) ∨ ∃ top, Top m F C top ∧ top ≤ hi ∧ k ≤ top + 8)
theorem On.fresh {m : SQ} {C : List (Int × Bool)} {T : List (Int × Int)} (h : On m C T) {now : Int} (hn : now ≤ 1000) : m.fresh now = m := by
  unfold SQ.fresh SQ.silent
  rw [if_neg]
  rintro ⟨_, _, h1⟩
  have := h.reset
  have := h.w0
  omega
theorem ahead_near {F x top : Int} (h : x - top ≤ 8) (h' : top - x ≤ 8) : ahead ((F + x) % 65536) ((F + top) % 65536) = x - top := by
  unfold ahead; omega

section
variable {m : SQ} {F : Int} {C : List (Int × Bool)} {T : List (Int × Int)}
theorem On.ctput (h : On m C T) (x : Int) (hx : lookL C x = none) (y : Int) : (lookL (putL C x true) y = none ∧ lookL (putL T x 1) y = none) ∨ (lookL (putL C x true) y = some true ∧ lookL (putL T x 1) y = some 1) := by
  by_cases e : y = x
  · subst e
    exact .inr ⟨lookL_put_same _ _ _, lookL_put_same _ _ _⟩
  · rw [lookL_put_other _ _ e, lookL_put_other _ _ e]
    exact h.ct y
theorem On.ctsame (h : On m C T) (x : Int) (hx : lookL C x ≠ none) (y : Int) : (lookL (putL C x true) y = none ∧ lookL T y = none) ∨ (lookL (putL C x true) y = some true ∧ lookL T y = some 1) := by
  by_cases e : y = x
  · subst e
    rcases h.ct y with ⟨h1, _⟩ | ⟨_, h2⟩
    · exact absurd h1 hx
    · exact .inr ⟨lookL_put_same _ _ _, h2⟩
  · rw [lookL_put_other _ _ e]
    exact h.ct y
theorem look_put_ne (C : List (Int × Bool)) (x y : Int) : lookL (putL C x true) y ≠ none ↔ y = x ∨ lookL C y ≠ none := by
  by_cases e : y = x
  · subst e
    rw [lookL_put_same]; simp
  · rw [lookL_put_other _ _ e]; simp [e]
/-- The sequencer behind a number of which it told t. -/
theorem On.step (h : On m C T) {C' : List (Int × Bool)} {T' : List (Int × Int)} {x seq : Int} (hx0 : 0 ≤ x) (hx : x ≤ 1000) (s0 : 0 ≤ seq) (s1 : seq < 65536)
    (hct : ∀ y, (lookL C' y = none ∧ lookL T' y = none) ∨ (lookL C' y = some true ∧ lookL T' y = some 1)) : On (m.into x seq) C' T' := by
  obtain ⟨e1, e2, e3⟩ := into_way m x seq
  have hw : (m.into x seq).when = x ∨ (m.into x seq).when = m.when := by
    unfold SQ.into SQ.timed
    split
    · exact .inl rfl
    · right
      rw [(count_same _ _).2.2.2.2.2.1, (noted_kept _ _).when, (fresh_kept _ _).when]
  have := h.w0
  have := h.w1
  exact ⟨h.g.into (by omega) (by omega) s0 s1, e1.trans h.way, by rw [e2]; exact h.len, e3.trans h.reset, by omega, by omega, hct⟩
theorem into_cl (h : On m C T) {x : Int} (hx : x ≤ 1000) (seq : Int) : (m.into x seq).come = (m.noted seq).1.come ∧ (m.into x seq).last = (m.noted seq).1.last ∧ m.told x seq = (m.noted seq).2 := by
  unfold SQ.into SQ.told
  rw [h.fresh hx]
  have c := count_same (m.noted seq).1 (m.noted seq).2
  have d := timed_same ((m.noted seq).1.count (m.noted seq).2) (m.noted seq).2 x
  exact ⟨d.2.2.2.1.trans c.2.2.2.1, d.2.2.2.2.1.trans c.2.2.2.2.1, rfl⟩
theorem Mid.give {k hi x : Int} (h : Mid m F C T k hi) (f0 : 0 ≤ F) (f1 : F < 65536) (hx0 : 0 ≤ x) (hxk : x ≤ k) (hkx : k ≤ x + 7) (hk : k ≤ 200) (hhi : hi ≤ k) :
    ∃ T', ((m.told x ((F + x) % 65536) = 1 ∧ T' = T) ∨ ((m.told x ((F + x) % 65536) = 0 ∨ m.told x ((F + x) % 65536) = 3) ∧ lookL T x = none ∧ T' = putL T x 1)) ∧
      Mid (m.into x ((F + x) % 65536)) F (putL C x true) T' (k + 1) k := by
  obtain ⟨ho, h⟩ := h
  have s0 : 0 ≤ (F + x) % 65536 := by omega
  have s1 : (F + x) % 65536 < 65536 := by omega
  obtain ⟨c1, c2, c3⟩ := into_cl ho (x := x) (by omega) ((F + x) % 65536)
  obtain ⟨e1, e2, e3⟩ := into_way m x ((F + x) % 65536)
  have hlen := ho.len
  obtain ⟨_, _, hlen2, _, _⟩ := ho.g.ok
  rw [c3]
  rcases h with ⟨hc, hn, hk7⟩ | ⟨top, ht, ht1, ht2⟩
  · have eN : m.noted ((F + x) % 65536) = ({ m with come := 1, last := (F + x) % 65536 }, 0) := by unfold SQ.noted; rw [if_pos hc]
    rw [eN] at c1 c2 ⊢
    have hxn : lookL T x = none := by
      rcases ho.ct x with h1 | h1
      · exact h1.2
      · rw [hn x] at h1; cases h1.1
    refine ⟨putL T x 1, .inr ⟨.inl rfl, hxn, rfl⟩, ho.step hx0 (by omega) s0 s1 (ho.ctput x (hn x)), .inr ⟨x, ⟨by rw [c1]; show (1 : Nat) ≠ 0; omega, c2, hx0, fun y hy => ?_, fun j hj => ?_⟩, hxk, by omega⟩⟩
    · rcases (look_put_ne C x y).1 hy with rfl | h1
      · omega
      · exact absurd (hn y) h1
    · rw [c1, look_put_ne]
      show bitN 1 j = 1 ↔ _
      rw [one_bit]
      constructor
      · intro h1; left; omega
      · rintro (h1 | h1)
        · omega
        · exact absurd (hn _) h1
  · have eA : ahead ((F + x) % 65536) m.last = x - top := by rw [ht.last]; exact ahead_near (by omega) (by omega)
    have hw : ¬ m.way = 1 := by rw [ho.way]; omega
    have eN : m.noted ((F + x) % 65536) = (if 0 < x - top then ({ m.moved (x - top).toNat with last := (F + x) % 65536 }, 0) else if bitN m.come (-(x - top)).toNat = 1 then (m, 1) else ({ m with come := m.come ||| 2 ^ (-(x - top)).toNat }, 3)) := by
      unfold SQ.noted
      rw [if_neg ht.come, if_neg hw, eA, if_neg (by omega)]
    by_cases hp : 0 < x - top
    · rw [eN, if_pos hp] at c1 c2
      rw [eN, if_pos hp]
      obtain ⟨d, hd⟩ : ∃ d : Nat, x - top = (d : Int) := ⟨(x - top).toNat, by omega⟩
      have hCx : lookL C x = none := Classical.byContradiction fun h1 => by have := ht.up x h1; omega
      have hxn : lookL T x = none := by
        rcases ho.ct x with h1 | h1
        · exact h1.2
        · rw [hCx] at h1; cases h1.1
      rw [show (x - top).toNat = d by omega] at c1 c2 ⊢
      refine ⟨putL T x 1, .inr ⟨.inl rfl, hxn, rfl⟩, ho.step hx0 (by omega) s0 s1 (ho.ctput x hCx), .inr ⟨x, ⟨by rw [c1]; exact mv_ne _ _, c2, hx0, fun y hy => ?_, fun j hj => ?_⟩, hxk, by omega⟩⟩
      · rcases (look_put_ne C x y).1 hy with rfl | h1
        · omega
        · have := ht.up y h1; omega
      · rw [e2] at hj
        rw [c1, look_put_ne]
        show bitN (moveN m.come d) j = 1 ↔ _
        rw [mv_bits (by omega)]
        constructor
        · rintro (h1 | ⟨h1, h2⟩)
          · left; omega
          · right
            have := (ht.bit (j - d) (by omega)).1 h2
            rwa [show top - ((j - d : Nat) : Int) = x - j by omega] at this
        · rintro (h1 | h1)
          · left; omega
          · right
            have := ht.up _ h1
            refine ⟨by omega, (ht.bit (j - d) (by omega)).2 ?_⟩
            rwa [show top - ((j - d : Nat) : Int) = x - j by omega]
    · obtain ⟨d, hd⟩ : ∃ d : Nat, top - x = (d : Int) := ⟨(top - x).toNat, by omega⟩
      rw [if_neg hp, show (-(x - top)).toNat = d by omega] at eN
      have hb := ht.bit d (by omega)
      rw [show top - (d : Int) = x by omega] at hb
      by_cases hbit : bitN m.come d = 1
      · rw [if_pos hbit] at eN
        rw [eN] at c1 c2 ⊢
        have hC := hb.1 hbit
        refine ⟨T, .inl ⟨rfl, rfl⟩, ho.step hx0 (by omega) s0 s1 (ho.ctsame x hC), .inr ⟨top, ⟨by rw [c1]; exact ht.come, by rw [c2]; exact ht.last, ht.t0, fun y hy => ?_, fun j hj => ?_⟩, by omega, by omega⟩⟩
        · rcases (look_put_ne C x y).1 hy with rfl | h1
          · omega
          · exact ht.up y h1
        · rw [e2] at hj
          rw [c1, look_put_ne]
          show bitN m.come j = 1 ↔ _
          rw [ht.bit j hj]
          constructor
          · exact .inr
          · rintro (h1 | h1)
            · rw [h1]; exact hC
            · exact h1
      · rw [if_neg hbit] at eN
        rw [eN] at c1 c2 ⊢
        have hC : lookL C x = none := Classical.byContradiction fun h1 => hbit (hb.2 h1)
        have hxn : lookL T x = none := by
          rcases ho.ct x with h1 | h1
          · exact h1.2
          · rw [hC] at h1; cases h1.1
        refine ⟨putL T x 1, .inr ⟨.inr rfl, hxn, rfl⟩, ho.step hx0 (by omega) s0 s1 (ho.ctput x hC), .inr ⟨top, ⟨by rw [c1]; exact or_ne _ _, by rw [c2]; exact ht.last, ht.t0, fun y hy => ?_, fun j hj => ?_⟩, by omega, by omega⟩⟩
        · rcases (look_put_ne C x y).1 hy with rfl | h1
          · omega
          · exact ht.up y h1
        · rw [e2] at hj
          rw [c1, look_put_ne]
          show bitN (m.come ||| 2 ^ d) j = 1 ↔ _
          by_cases hj2 : j = d
          · subst hj2
            exact ⟨fun _ => .inl (by omega), fun _ => bitN_or _ _⟩
          · rw [or_other hj2, ht.bit j hj]
            constructor
            · exact .inr
            · rintro (h1 | h1)
              · omega
              · exact h1
theorem Mid.weak {k hi k' hi' : Int} (h : Mid m F C T k hi) (hk : k' ≤ k) (hh : hi ≤ hi') : Mid m F C T k' hi' := by
  obtain ⟨ho, ⟨hc, hn, hk7⟩ | ⟨top, ht, ht1, ht2⟩⟩ := h
  · exact ⟨ho, .inl ⟨hc, hn, by omega⟩⟩
  · exact ⟨ho, .inr ⟨top, ht, by omega, by omega⟩⟩
theorem Mid.idle {k hi : Int} (h : Mid m F C T k hi) (hk : k < 7) : Mid m F C T (k + 1) hi := by
  obtain ⟨ho, ⟨hc, hn, hk7⟩ | ⟨top, ht, ht1, ht2⟩⟩ := h
  · exact ⟨ho, .inl ⟨hc, hn, by omega⟩⟩
  · exact ⟨ho, .inr ⟨top, ht, by omega, by have := ht.t0; omega⟩⟩
theorem Mid.come {k hi x : Int} (h : Mid m F C T k hi) (hk : k ≤ x + 7) (hx : lookL C x ≠ none) : Mid m F C T (k + 1) hi := by
  obtain ⟨ho, ⟨hc, hn, hk7⟩ | ⟨top, ht, ht1, ht2⟩⟩ := h
  · exact absurd (hn x) hx
  · exact ⟨ho, .inr ⟨top, ht, by omega, by have := ht.up x hx; omega⟩⟩
end
end Go.Proofs.Ytkapklgimcmhdaa
