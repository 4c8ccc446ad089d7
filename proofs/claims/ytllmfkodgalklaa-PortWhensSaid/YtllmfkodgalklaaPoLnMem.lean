/- Lanes in memory: a row of waiting frames for each class, that may begin in the midst of its block. -/
import Derived.Test.YtllmfkodgalklaaGtMem
import Derived.Below
import Derived.WalkKit
import Derived.WalkMore
import Derived.WalkSpells
import Derived.WalkLawsBesides
import Derived.BigQuiet
import Derived.Lib.Hide
import Derived.Lib.Small
import Derived.Lib.Walk
import Derived.Lib.SmallJoins
import Derived.Laws.AppendOwnNone
import Derived.Maps.AppendAt
import Derived.Deep.DeepCutAuto
import Derived.OrdersHeld
import Derived.Deep.RegionHeld
import Derived.Deep.RegionHeld3
namespace Go.Proofs.Ytllmfkodgalklaa
open Go.RowKit Go.Joins

theorem heap_alloc_one' (w : World) (o : Obj) : (w.alloc o).heap[w.heap.size]? = some o := by unfold World.alloc; simp
theorem block_lt_cell {w : World} {a : Addr} {v : Value} (h : w.cell? a = some v) : a.block < w.heap.size := World.block_lt_of_cell? _ _ h
theorem neq_tag {w : World} {r g : Nat} {c1 c2 : Array Value} {t1 t2 : TypeId} {f1 f2 : Nat × Nat} (h1 : w.heap[r]? = some (.cells c1 t1 f1)) (h2 : w.heap[g]? = some (.cells c2 t2 f2)) (ht : t1 ≠ t2) : r ≠ g := fun e => by
  subst e
  rw [h1] at h2
  injection h2 with h2
  injection h2 with _ h2 _
  exact ht h2
/-- All blocks but those of F are as they were. -/
structure ButP (F : Nat → Prop) (w w' : World) : Prop where
  os : w'.os = w.os
  tape : w'.tape = w.tape
  output : w'.output = w.output
  size : w.heap.size ≤ w'.heap.size
  block : ∀ k, k < w.heap.size → ¬ F k → w'.heap[k]? = w.heap[k]?
/-- F, and what is new in the second world. -/
def Wid (F : Nat → Prop) (w w' : World) : Nat → Prop := fun k => F k ∨ (w.heap.size ≤ k ∧ k < w'.heap.size)
section
variable {F G : Nat → Prop} {w w1 w2 : World}
theorem ButP.refl (F : Nat → Prop) (w : World) : ButP F w w := ⟨rfl, rfl, rfl, Nat.le_refl _, fun _ _ _ => rfl⟩
theorem ButP.of_below (h : Below w.heap.size w w1) : ButP F w w1 := ⟨h.os, h.tape, h.output, h.size, fun k hk _ => h.block k hk⟩
theorem ButP.trans (h : ButP F w w1) (k : ButP (Wid F w w1) w1 w2) : ButP F w w2 :=
  ⟨k.os.trans h.os, k.tape.trans h.tape, k.output.trans h.output, Nat.le_trans h.size k.size, fun i hi hn => (k.block i (Nat.lt_of_lt_of_le hi h.size) (fun e => e.elim hn (fun e => by omega))).trans (h.block i hi hn)⟩
theorem ButP.mono (h : ButP F w w1) (hf : ∀ k, F k → G k) : ButP G w w1 := ⟨h.os, h.tape, h.output, h.size, fun i hi hn => h.block i hi (fun e => hn (hf i e))⟩
theorem ButP.same (h : ButP F w w1) (k : ButP F w1 w2) : ButP F w w2 := h.trans (k.mono fun _ e => .inl e)
theorem ButP.below {B : Nat} (h : ButP F w w1) (hf : ∀ k, F k → B ≤ k) (hB : B ≤ w.heap.size) : Below B w w1 := ⟨h.os, h.tape, h.output, h.size, fun k hk => h.block k (by omega) (fun e => by have := hf k e; omega)⟩
theorem Wid.trans {k : Nat} (h : Wid (Wid F w w1) w1 w2 k) (h1 : w.heap.size ≤ w1.heap.size) (h2 : w1.heap.size ≤ w2.heap.size) : Wid F w w2 k := by
  rcases h with (h | ⟨a, b⟩) | ⟨a, b⟩
  · exact .inl h
  · exact .inr ⟨a, by omega⟩
  · exact .inr ⟨by omega, b⟩
end

/-- A frame that waits: its number, its size, whether it may be dropped sooner. -/
abbrev It := Int × Int × Bool
def one3 (s : It) : List Value := [.int .i64 s.1, .int .i64 s.2.1, .bool s.2.2]
def itv (s : It) : Value := .agg #[.int .i64 s.1, .int .i64 s.2.1, .bool s.2.2]
def iv3 (L : List It) : List Value := L.flatMap one3
theorem iv3_app (L M : List It) : iv3 (L ++ M) = iv3 L ++ iv3 M := by unfold iv3; rw [List.flatMap_append]
theorem iv3_cons (s : It) (L : List It) : iv3 (s :: L) = one3 s ++ iv3 L := rfl
theorem iv3_len (L : List It) : (iv3 L).length = L.length * 3 := by
  induction L with
  | nil => rfl
  | cons s L ih => rw [iv3_cons, List.length_append, ih]; simp [one3]; omega
theorem one3_one (x : It) : ∀ u ∈ one3 x, u.oneCell' = true := by
  intro u hu
  simp [one3] at hu
  rcases hu with rfl | rfl | rfl <;> rfl
/-- A row of waiting frames, in a block of F. -/
def Qr (w : World) (F : Nat → Prop) (v : Value) (L : List It) : Prop :=
  (v = .slice none 0 0 ∧ L = []) ∨ ∃ g o cap cur, v = .slice (some ⟨g, o, none⟩) L.length cap ∧ F g ∧ w.heap[g]? = some (.cells cur 35 (0, 0)) ∧ L.length ≤ cap ∧ cap ≤ maxLen ∧ o + cap * 3 ≤ cur.size ∧ ∀ j u, (iv3 L)[j]? = some u → cur[o + j]? = some u
def upd {α : Type} (f : Nat → α) (i : Nat) (x : α) : Nat → α := fun j => if j = i then x else f j
theorem upd_same {α : Type} (f : Nat → α) (i : Nat) (x : α) : upd f i x i = x := by simp [upd]
theorem upd_other {α : Type} (f : Nat → α) {i j : Nat} (x : α) (h : j ≠ i) : upd f i x j = f j := by simp [upd, h]
section
variable {F G : Nat → Prop} {w w' : World} {v : Value} {L : List It}
theorem Qr.keep (h : Qr w F v L) (hk : ∀ k, F k → w'.heap[k]? = w.heap[k]?) : Qr w' F v L := by
  rcases h with h | ⟨g, o, cap, cur, h1, h2, h3, h4⟩
  · exact .inl h
  · exact .inr ⟨g, o, cap, cur, h1, h2, (hk g h2).trans h3, h4⟩
theorem Qr.wide (h : Qr w F v L) (hf : ∀ k, F k → G k) : Qr w G v L := by
  rcases h with h | ⟨g, o, cap, cur, h1, h2, h3, h4⟩
  · exact .inl h
  · exact .inr ⟨g, o, cap, cur, h1, hf g h2, h3, h4⟩
theorem Qr.form (h : Qr w F v L) : ∃ p c, v = .slice p L.length c := by
  rcases h with ⟨rfl, rfl⟩ | ⟨g, o, cap, cur, rfl, _⟩
  · exact ⟨none, 0, rfl⟩
  · exact ⟨_, cap, rfl⟩
/-- One block of the row's stays, all others may turn. -/
theorem Qr.own (h : Qr w F v L) (hk : ∀ k, v.ownBlock = some k → F k → w'.heap[k]? = w.heap[k]?) : Qr w' F v L := by
  rcases h with h | ⟨g, o, cap, cur, h1, h2, h3, h4⟩
  · exact .inl h
  · exact .inr ⟨g, o, cap, cur, h1, h2, (hk g (by rw [h1]; rfl) h2).trans h3, h4⟩
theorem Qr.tag {k : Nat} (h : Qr w F v L) (hk : v.ownBlock = some k) : F k ∧ ∃ cur, w.heap[k]? = some (.cells cur 35 (0, 0)) := by
  rcases h with ⟨rfl, _⟩ | ⟨g, o, cap, cur, rfl, h2, h3, h4⟩
  · cases hk
  · injection hk with hk
    subst hk
    exact ⟨h2, cur, h3⟩
/-- The first one, and the row behind it. -/
theorem Qr.first {x : It} (h : Qr w F v (x :: L)) : ∃ g o cap, v = .slice (some ⟨g, o, none⟩) (L.length + 1) cap ∧ w.cell? ⟨g, o, none⟩ = some (.int .i64 x.1) ∧ w.cell? ⟨g, o + 1, none⟩ = some (.int .i64 x.2.1) ∧ w.cell? ⟨g, o + 2, none⟩ = some (.bool x.2.2) ∧ L.length + 1 ≤ cap ∧ cap ≤ maxLen ∧
    Qr w F (.slice (if cap = 1 then some ⟨g, o, none⟩ else some ⟨g, o + 3, none⟩) L.length (cap - 1)) L := by
  rcases h with ⟨_, h⟩ | ⟨g, o, cap, cur, h1, h2, h3, h4, h5, h6, h7⟩
  · cases h
  · have a0 := h7 0 _ rfl
    have a1 := h7 1 _ rfl
    have a2 := h7 2 _ rfl
    simp only [List.length_cons] at h4
    refine ⟨g, o, cap, h1, (cell_of_row w g o _ _ _ h3).trans a0, (cell_of_row w g _ _ _ _ h3).trans a1, (cell_of_row w g _ _ _ _ h3).trans a2, h4, h5, ?_⟩
    by_cases hc : cap = 1
    · rw [if_pos hc]
      have hl : L = [] := List.length_eq_zero_iff.1 (by omega)
      subst hl
      exact .inr ⟨g, o, cap - 1, cur, rfl, h2, h3, by simp, by omega, by omega, fun j u hu => by simp [iv3] at hu⟩
    · rw [if_neg hc]
      refine .inr ⟨g, o + 3, cap - 1, cur, rfl, h2, h3, by omega, by omega, by omega, fun j u hu => ?_⟩
      have := h7 (3 + j) u (by rw [iv3_cons, List.getElem?_append_right (by simp [one3])]; simpa [one3] using hu)
      rwa [← Nat.add_assoc] at this
end

section
variable {P : Program} (w : World)
theorem run_append_off (t ty e : TypeId) (i : TypeInfo) (ht : P.underlying t = some (.slice e)) (hi : P.info? e = some i)
    (g o sLen sCap : Nat) (cur : Array Value) (hg : w.heap[g]? = some (.cells cur e (0, 0)))
    (a : Addr) (m c : Nat) (news : List Value) (hl : news.length = m * i.size) (hnews : ∀ j u, news[j]? = some u → w.cell? (a.add j) = some u) (h1 : ∀ u ∈ news, u.oneCell' = true)
    (hroom : sLen + m ≤ sCap) (hfit : o + sLen * i.size + news.length ≤ cur.size) :
    (Builtin.append_ #[t, t] ty #[.slice (some ⟨g, o, none⟩) sLen sCap, .slice (some a) m c]).run P w =
      .ok (.slice (some ⟨g, o, none⟩) (sLen + m) sCap) (w.setRow g (cur.toList.take (o + sLen * i.size) ++ news ++ cur.toList.drop (o + sLen * i.size + news.length)).toArray) := by
  have hf := run_firstCells_some (P := P) w i.size m a m c news hl hnews
  have hst := run_storeCells_at P g (o + sLen * i.size) e news 0 cur w hg (by simpa using hfit) h1
  simp only [Nat.add_zero] at hst
  simp [Builtin.append_, run_underlying ht, sizeOf, typeInfo, hi, Builtin.lenOf, hroom, hf, Addr.add_lit, hst]
end

theorem Try.infoItem : (Try.prog.info? 35).map (fun i => (i.zero, i.size, i.bytes)) = some (some (.agg #[.int .i64 0, .int .i64 0, .bool false]), 3, 24) := by kernel_rfl
theorem row_mid {cur : Array Value} {a : Nat} {news : List Value} (h : a + news.length ≤ cur.size) : (cur.toList.take a ++ news ++ cur.toList.drop (a + news.length)).toArray.size = cur.size := by
  simp
  omega
theorem row_mid_at {cur : Array Value} {a : Nat} {news : List Value} (h : a + news.length ≤ cur.size) (j : Nat) : (cur.toList.take a ++ news ++ cur.toList.drop (a + news.length)).toArray[j]? = if j < a then cur[j]? else if j < a + news.length then news[j - a]? else cur[j]? := by
  have hl : (cur.toList.take a).length = a := by simp; omega
  rw [List.getElem?_toArray]
  by_cases h1 : j < a
  · rw [if_pos h1, List.append_assoc, List.getElem?_append_left (by omega), List.getElem?_take, if_pos h1, Array.getElem?_toList]
  · rw [if_neg h1]
    by_cases h2 : j < a + news.length
    · rw [if_pos h2, List.append_assoc, List.getElem?_append_right (by omega), hl, List.getElem?_append_left (by omega)]
    · rw [if_neg h2, List.getElem?_append_right (by simp; omega), List.getElem?_drop, ← Array.getElem?_toList]
      congr 1
      simp
      omega
/-- One more is appended. -/
theorem Qr.app {F : Nat → Prop} {w : World} {v : Value} {L : List It} (h : Qr w F v L) (x : It) (ad : Addr) (c : Nat) (hn : ∀ j u, (one3 x)[j]? = some u → w.cell? (ad.add j) = some u) (hl : L.length < 100000) :
    ∃ v' w', (∀ ty, (Builtin.append_ #[79, 79] ty #[v, .slice (some ad) 1 c]).run Try.prog w = .ok v' w') ∧ Qr w' (Wid F w w') v' (L ++ [x]) ∧ w.grownBy w' v.ownBlock ∧ (v'.ownBlock = v.ownBlock ∨ v'.ownBlock = some w.heap.size) := by
  obtain ⟨i0, hi, hz0, hz1, hz2⟩ := info_parts Try.infoItem
  have hlen : (one3 x).length = 1 * i0.size := by rw [hz1]; rfl
  have hl2 : (L ++ [x]).length = L.length + 1 := by simp
  have hiv : iv3 (L ++ [x]) = iv3 L ++ one3 x := by rw [iv3_app]; simp [iv3]
  rcases h with ⟨rfl, rfl⟩ | ⟨g, o, cap, cur, rfl, h2, h3, h4, h5, h6, h7⟩
  · have key := fun ty => run_append_nil (P := Try.prog) w 79 ty 35 i0 _ Try.underlying79 hi hz0 ad 1 c (one3 x) hlen hn (by omega) (by omega) (by rw [hz2]; omega)
    refine ⟨_, _, key, .inr ⟨w.heap.size, 0, _, _, rfl, .inr ⟨Nat.le_refl _, by simp⟩, heap_alloc_new w.drew _, ?_, grownCap_le_maxLen w 1 0 _ (by unfold maxLen; omega), ?_, ?_⟩, ⟨rfl, rfl, rfl, by simp, fun k hk _ => heap_alloc_old w.drew _ hk⟩, .inr rfl⟩
    · have := grownCap_ge w 1 0 35
      simpa using this
    · have := grownCap_ge w 1 0 35
      simp only [Array.size_append, List.size_toArray, size_zeroCells]
      show 0 + grownCap w 1 0 _ * 3 ≤ 3 + (grownCap w 1 0 _ - 1) * 3
      omega
    · intro j u hu
      rw [hiv] at hu
      simp only [iv3, List.flatMap_nil, List.nil_append] at hu
      rw [Nat.zero_add, Array.getElem?_append_left (by have := (List.getElem?_eq_some_iff.1 hu).1; simpa using this)]
      simpa using hu
  · by_cases hroom : L.length + 1 ≤ cap
    · have hfit : o + L.length * i0.size + (one3 x).length ≤ cur.size := by rw [hz1]; show o + L.length * 3 + 3 ≤ cur.size; omega
      have key := fun ty => run_append_off (P := Try.prog) w 79 ty 35 i0 Try.underlying79 hi g o L.length cap cur h3 ad 1 c (one3 x) hlen hn (one3_one x) hroom hfit
      refine ⟨_, _, key, .inr ⟨g, o, cap, _, by rw [hl2], .inl h2, setRow_heap w g cur _ _ _ h3, by omega, h5, ?_, ?_⟩, ⟨rfl, rfl, rfl, by simp, fun k _ hk => setRow_other w g k _ (fun e => hk (by rw [e]; rfl))⟩, .inl rfl⟩
      · rw [row_mid hfit]; exact h6
      · intro j u hu
        rw [hiv] at hu
        rw [row_mid_at hfit, hz1]
        by_cases hj : j < L.length * 3
        · rw [List.getElem?_append_left (by rw [iv3_len]; omega)] at hu
          rw [if_pos (by omega)]
          exact h7 j u hu
        · rw [List.getElem?_append_right (by rw [iv3_len]; omega), iv3_len] at hu
          have hj2 := (List.getElem?_eq_some_iff.1 hu).1
          rw [if_neg (by omega), if_pos (by omega)]
          rw [show o + j - (o + L.length * 3) = j - L.length * 3 by omega]
          exact hu
    · have hold : ∀ j u, (iv3 L)[j]? = some u → w.cell? ((⟨g, o, none⟩ : Addr).add j) = some u := fun j u hu => by
        have e : (⟨g, o, none⟩ : Addr).add j = ⟨g, o + j, none⟩ := by unfold Addr.add; split <;> simp_all
        rw [e, cell_of_row w g _ _ _ _ h3]
        exact h7 j u hu
      have key := fun ty => run_append_grow (P := Try.prog) w 79 ty 35 i0 _ Try.underlying79 hi hz0 ⟨g, o, none⟩ L.length cap (iv3 L) (by rw [iv3_len, hz1]) hold ad 1 c (one3 x) hlen hn (by omega) (by omega) (growslice_fits (by omega) (by rw [hz2]; omega))
      refine ⟨_, _, key, .inr ⟨w.heap.size, 0, _, _, by rw [hl2], .inr ⟨Nat.le_refl _, by simp⟩, heap_alloc_new w.drew _, ?_, grownCap_le_maxLen w _ _ _ (by unfold maxLen; omega), ?_, ?_⟩, ⟨rfl, rfl, rfl, by simp, fun k hk _ => heap_alloc_old w.drew _ hk⟩, .inr rfl⟩
      · have := grownCap_ge w (L.length + 1) cap 35
        rw [hl2]; exact this
      · have := grownCap_ge w (L.length + 1) cap 35
        simp only [Array.size_append, List.size_toArray, size_zeroCells, iv3_len]
        show 0 + grownCap w (L.length + 1) cap _ * 3 ≤ L.length * 3 + 3 + (grownCap w (L.length + 1) cap _ - (L.length + 1)) * 3
        omega
      · intro j u hu
        rw [hiv] at hu
        have hj := (List.getElem?_eq_some_iff.1 hu).1
        rw [Nat.zero_add, Array.getElem?_append_left (by simpa using hj)]
        simpa using hu

/-- Lanes in plain numbers. -/
structure LS where
  r : Nat → Int
  q : Nat → List It
  lost : Nat → Int
def lrow (s : LS) (sl : Nat → Value) : Array Value := #[.int .i64 (s.r 0), .int .i64 (s.r 1), .int .i64 (s.r 2), .int .i64 (s.r 3), .int .i64 (s.r 4), .int .i64 (s.r 5), .int .i64 (s.r 6), .int .i64 (s.r 7), sl 0, sl 1, sl 2, sl 3, sl 4, sl 5, sl 6, sl 7,
  .int .i64 (s.lost 0), .int .i64 (s.lost 1), .int .i64 (s.lost 2), .int .i64 (s.lost 3), .int .i64 (s.lost 4), .int .i64 (s.lost 5), .int .i64 (s.lost 6), .int .i64 (s.lost 7)]
theorem eight_cases {c : Nat} (h : c < 8) : c = 0 ∨ c = 1 ∨ c = 2 ∨ c = 3 ∨ c = 4 ∨ c = 5 ∨ c = 6 ∨ c = 7 := by omega
section
variable {s : LS} {sl : Nat → Value} {c : Nat}
theorem lrow_r (h : c < 8) : (lrow s sl)[c]? = some (.int .i64 (s.r c)) := by rcases eight_cases h with rfl | rfl | rfl | rfl | rfl | rfl | rfl | rfl <;> rfl
theorem lrow_q (h : c < 8) : (lrow s sl)[8 + c]? = some (sl c) := by rcases eight_cases h with rfl | rfl | rfl | rfl | rfl | rfl | rfl | rfl <;> rfl
theorem lrow_lost (h : c < 8) : (lrow s sl)[16 + c]? = some (.int .i64 (s.lost c)) := by rcases eight_cases h with rfl | rfl | rfl | rfl | rfl | rfl | rfl | rfl <;> rfl
theorem lrow_setq (h : c < 8) (v : Value) : (lrow s sl).setIfInBounds (8 + c) v = lrow s (upd sl c v) := by rcases eight_cases h with rfl | rfl | rfl | rfl | rfl | rfl | rfl | rfl <;> rfl
theorem lrow_setl (h : c < 8) (x : Int) : (lrow s sl).setIfInBounds (16 + c) (.int .i64 x) = lrow { s with lost := upd s.lost c x } sl := by rcases eight_cases h with rfl | rfl | rfl | rfl | rfl | rfl | rfl | rfl <;> rfl
end
structure LnI (w : World) (b : Nat) (F : Nat → Prop) (s : LS) (sl : Nat → Value) : Prop where
  box : w.heap[b]? = some (.cells (lrow s sl) 82 (0, 0))
  q : ∀ c, c < 8 → Qr w F (sl c) (s.q c)
  dis : ∀ c d k, c < 8 → d < 8 → c ≠ d → (sl c).ownBlock = some k → (sl d).ownBlock ≠ some k
  fb : F b
  top : ∀ k, F k → k < w.heap.size
/-- Lanes whose blocks are of F. -/
def Ln (w : World) (b : Nat) (F : Nat → Prop) (s : LS) : Prop := ∃ sl, LnI w b F s sl
section
variable {F G : Nat → Prop} {w w' : World} {b : Nat} {s : LS} {sl : Nat → Value}
theorem LnI.keep (h : LnI w b F s sl) (hs : w.heap.size ≤ w'.heap.size) (hk : ∀ k, F k → w'.heap[k]? = w.heap[k]?) : LnI w' b F s sl :=
  ⟨(hk b h.fb).trans h.box, fun c hc => (h.q c hc).keep hk, h.dis, h.fb, fun k hf => Nat.lt_of_lt_of_le (h.top k hf) hs⟩
theorem LnI.below (h : LnI w b F s sl) (hb : Below w.heap.size w w') : LnI w' b F s sl := h.keep hb.size (fun k hf => hb.block k (h.top k hf))
theorem Ln.below (h : Ln w b F s) (hb : Below w.heap.size w w') : Ln w' b F s := by obtain ⟨sl, h⟩ := h; exact ⟨sl, h.below hb⟩
theorem Ln.alloc (h : Ln w b F s) (o : Obj) : Ln (w.alloc o) b F s := h.below (bAl (bRef w) o)
theorem LnI.but (h : LnI w b F s sl) (hb : ButP G w w') (hd : ∀ k, F k → ¬ G k) : LnI w' b F s sl := h.keep hb.size (fun k hf => hb.block k (h.top k hf) (hd k hf))
theorem Ln.but (h : Ln w b F s) (hb : ButP G w w') (hd : ∀ k, F k → ¬ G k) : Ln w' b F s := by obtain ⟨sl, h⟩ := h; exact ⟨sl, h.but hb hd⟩
theorem Ln.top (h : Ln w b F s) : F b ∧ ∀ k, F k → k < w.heap.size := by obtain ⟨sl, h⟩ := h; exact ⟨h.fb, h.top⟩
theorem LnI.cr (h : LnI w b F s sl) {c : Nat} (hc : c < 8) : w.cell? ⟨b, c, none⟩ = some (.int .i64 (s.r c)) := (cell_of_row _ _ _ _ _ _ h.box).trans (lrow_r hc)
theorem LnI.cq (h : LnI w b F s sl) {c : Nat} (hc : c < 8) : w.cell? ⟨b, 8 + c, none⟩ = some (sl c) := (cell_of_row _ _ _ _ _ _ h.box).trans (lrow_q hc)
theorem LnI.cl (h : LnI w b F s sl) {c : Nat} (hc : c < 8) : w.cell? ⟨b, 16 + c, none⟩ = some (.int .i64 (s.lost c)) := (cell_of_row _ _ _ _ _ _ h.box).trans (lrow_lost hc)
theorem LnI.fz (h : LnI w b F s sl) (i : Nat) : w.frozen? ⟨b, i, none⟩ = false := frozen_of_row _ _ _ _ _ h.box
theorem LnI.nq (h : LnI w b F s sl) {c k : Nat} (hc : c < 8) (hk : (sl c).ownBlock = some k) : k ≠ b := by
  obtain ⟨_, cur, h3⟩ := (h.q c hc).tag hk
  exact neq_tag h3 h.box (by decide)
/-- What no class has room for is counted. -/
theorem LnI.setl (h : LnI w b F s sl) {c : Nat} (hc : c < 8) (x : Int) : LnI (w.setCell ⟨b, 16 + c, none⟩ (.int .i64 x)) b F { s with lost := upd s.lost c x } sl := by
  refine ⟨?_, fun d hd => (h.q d hd).own (fun k hk _ => heap_setCell_other w ⟨b, 16 + c, none⟩ k _ (h.nq hd hk)), h.dis, h.fb, fun k hf => by have := h.top k hf; simpa using this⟩
  rw [← lrow_setl hc]
  exact heap_setCell_same w b (16 + c) _ _ _ h.box
/-- A class's row turns: what it owns alone may have turned. -/
theorem LnI.setq (h : LnI w b F s sl) {c : Nat} (hc : c < 8) {v : Value} {L : List It} (hq : Qr w' (Wid F w w') v L) (hg : w.grownBy w' (sl c).ownBlock) (ho : v.ownBlock = (sl c).ownBlock ∨ v.ownBlock = some w.heap.size) : LnI (w'.setCell ⟨b, 8 + c, none⟩ v) b (Wid F w w') { s with q := upd s.q c L } (upd sl c v) := by
  have hbox : w'.heap[b]? = some (.cells (lrow s sl) 82 (0, 0)) := (hg.block b (lt_of_heap h.box) (fun e => h.nq hc e.symm rfl)).trans h.box
  refine ⟨?_, fun d hd => ?_, fun d e k hd he hne hk => ?_, .inl h.fb, fun k hf => ?_⟩
  · have := heap_setCell_same w' b (8 + c) _ _ v hbox
    rw [lrow_setq hc] at this
    exact this
  · by_cases e : d = c
    · subst e
      show Qr _ _ (upd sl d v d) (upd s.q d L d)
      rw [upd_same, upd_same]
      refine hq.own fun k hk _ => heap_setCell_other w' ⟨b, 8 + d, none⟩ k v ?_
      obtain ⟨_, cur, h3⟩ := hq.tag hk
      exact neq_tag h3 hbox (by decide)
    · show Qr _ _ (upd sl c v d) (upd s.q c L d)
      rw [upd_other _ _ e, upd_other _ _ e]
      refine ((h.q d hd).own fun k hk hf => ?_).wide fun _ e => .inl e
      rw [heap_setCell_other w' ⟨b, 8 + c, none⟩ k v (h.nq hd hk)]
      exact hg.block k (h.top k hf) (fun e2 => h.dis c d k hc hd (fun e3 => e e3.symm) e2.symm hk)
  · by_cases e1 : d = c
    · subst e1
      rw [upd_same] at hk
      rw [upd_other _ _ (fun e3 => hne e3.symm)]
      rcases ho with ho | ho
      · exact h.dis d e k hd he hne (ho.symm.trans hk)
      · intro e4
        have := ((h.q e he).tag e4)
        have := h.top k this.1
        rw [ho] at hk
        injection hk with hk
        omega
    · rw [upd_other _ _ e1] at hk
      by_cases e2 : e = c
      · subst e2
        rw [upd_same]
        rcases ho with ho | ho
        · rw [ho]; exact h.dis d e k hd he hne hk
        · intro e4
          have := ((h.q d hd).tag hk)
          have := h.top k this.1
          rw [ho] at e4
          injection e4 with e4
          omega
      · rw [upd_other _ _ e2]
        exact h.dis d e k hd he hne hk
  · rcases hf with hf | hf
    · have := h.top k hf
      have := hg.size
      simp
      omega
    · simp
      omega
theorem LnI.setB (h : LnI w b F s sl) (i : Nat) (v : Value) : ButP F w (w.setCell ⟨b, i, none⟩ v) :=
  ⟨rfl, rfl, rfl, by simp, fun k _ hn => heap_setCell_other w ⟨b, i, none⟩ k v (fun e => hn (by rw [show k = b from e]; exact h.fb))⟩
theorem grown_but {c : Nat} (h : LnI w b F s sl) (hc : c < 8) (hg : w.grownBy w' (sl c).ownBlock) : ButP F w w' :=
  ⟨hg.os, hg.tape, hg.output, hg.size, fun k hk hn => hg.block k hk (fun e => hn ((h.q c hc).tag e.symm).1)⟩
theorem wid_self : Wid F w w = F := by
  funext k
  exact propext ⟨fun h => h.elim id (fun e => by omega), .inl⟩
end
theorem ButP.drew {F : Nat → Prop} {w w' : World} (h : ButP F w w') : ButP F w w'.drew := ⟨h.os, h.tape, h.output, h.size, h.block⟩
theorem Ln.drew {F : Nat → Prop} {w : World} {b : Nat} {s : LS} (h : Ln w b F s) : Ln w.drew b F s := h.below (bDr1 (bRef w))

end Go.Proofs.Ytllmfkodgalklaa
