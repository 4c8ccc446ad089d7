/- A tree in memory. -/
import Derived.Test.YtholemjbjmkpkaaTrPath
import Derived.Test.YtholemjbjmkpkaaBtChk
import Derived.Test.YtholemjbjmkpkaaBtLoad
import Derived.Test.YtholemjbjmkpkaaBtMath
namespace Go.Proofs.Ytholemjbjmkpkaa
open Go.RowKit Go.Joins Go.Deep

/-- All blocks but one are as they were. -/
structure ButB (b : Nat) (w w' : World) : Prop where
  os : w'.os = w.os
  tape : w'.tape = w.tape
  output : w'.output = w.output
  size : w.heap.size ≤ w'.heap.size
  block : ∀ k, k < w.heap.size → k ≠ b → w'.heap[k]? = w.heap[k]?
theorem ButB.refl (b : Nat) (w : World) : ButB b w w := ⟨rfl, rfl, rfl, Nat.le_refl _, fun _ _ _ => rfl⟩
theorem ButB.trans {b : Nat} {w w1 w2 : World} (h : ButB b w w1) (k : ButB b w1 w2) : ButB b w w2 :=
  ⟨k.os.trans h.os, k.tape.trans h.tape, k.output.trans h.output, Nat.le_trans h.size k.size, fun i hi hn => (k.block i (Nat.lt_of_lt_of_le hi h.size) hn).trans (h.block i hi hn)⟩
theorem ButB.of_below {b : Nat} {w w1 : World} (h : Below w.heap.size w w1) : ButB b w w1 := ⟨h.os, h.tape, h.output, h.size, fun k hk _ => h.block k hk⟩
theorem ButB.below {b B : Nat} {w w1 : World} (h : ButB b w w1) (hB : B ≤ b) (hs : B ≤ w.heap.size) : Below B w w1 :=
  ⟨h.os, h.tape, h.output, h.size, fun k hk => h.block k (by omega) (by omega)⟩
theorem ButB.into {b : Nat} {w0 w w1 : World} (h : ButB b w w1) (h0 : Below w0.heap.size w0 w) (hB : w0.heap.size ≤ b) : Below w0.heap.size w0 w1 := h0.trans (h.below hB h0.size)
theorem ButB.drew {b : Nat} {w w1 : World} (h : ButB b w w1) : ButB b w w1.drew := ⟨h.os, h.tape, h.output, h.size, h.block⟩
theorem set_but {w w' : World} {b : Nat} (h : ButB b w w') (i : Nat) (v : Value) : ButB b w (w'.setCell ⟨b, i, none⟩ v) :=
  h.trans ⟨rfl, rfl, rfl, by simp, fun k _ hn => heap_setCell_other w' ⟨b, i, none⟩ k v hn⟩

theorem ButB.drewN {b : Nat} {w w1 : World} (h : ButB b w w1) (n : Nat) : ButB b w (w1.drewN n) := ⟨h.os, h.tape, h.output, h.size, h.block⟩
theorem ButB.sets {b : Nat} {w : World} : ∀ (l : List Value) (o : Nat) {w1 : World}, ButB b w w1 → ButB b w (w1.setCells b o l)
  | [], _, _, h => h
  | v :: r, o, _, h => ButB.sets r (o + 1) (set_but h o v)
def setL (cs : Array Value) : Nat → List Value → Array Value
  | _, [] => cs
  | o, v :: r => setL (cs.setIfInBounds o v) (o + 1) r
theorem setL_size : ∀ (l : List Value) (cs : Array Value) (o : Nat), (setL cs o l).size = cs.size
  | [], _, _ => rfl
  | v :: r, cs, o => by
    show (setL (cs.setIfInBounds o v) (o + 1) r).size = _
    rw [setL_size r]; simp
theorem setL_out : ∀ (l : List Value) (cs : Array Value) (o i : Nat), i < o ∨ o + l.length ≤ i → (setL cs o l)[i]? = cs[i]?
  | [], _, _, _, _ => rfl
  | v :: r, cs, o, i, h => by
    show (setL (cs.setIfInBounds o v) (o + 1) r)[i]? = _
    simp only [List.length_cons] at h
    rw [setL_out r _ _ _ (by omega), Array.getElem?_setIfInBounds_ne (by omega)]
theorem setL_in : ∀ (l : List Value) (cs : Array Value) (o j : Nat) (x : Value), o + l.length ≤ cs.size → l[j]? = some x → (setL cs o l)[o + j]? = some x
  | [], _, _, _, _, _, h => by simp at h
  | v :: r, cs, o, 0, x, hs, h => by
    simp at h
    subst h
    simp only [List.length_cons] at hs
    show (setL (cs.setIfInBounds o v) (o + 1) r)[o]? = _
    rw [setL_out r _ _ _ (by omega)]
    rw [Array.getElem?_setIfInBounds_self_of_lt (by omega)]
  | v :: r, cs, o, j + 1, x, hs, h => by
    show (setL (cs.setIfInBounds o v) (o + 1) r)[o + (j + 1)]? = _
    simp only [List.length_cons] at hs
    have := setL_in r (cs.setIfInBounds o v) (o + 1) j x (by simp; omega) (by simpa using h)
    rwa [show o + 1 + j = o + (j + 1) by omega] at this
theorem setCells_heap : ∀ (l : List Value) (o : Nat) (w : World) (g : Nat) (cs : Array Value) (t : TypeId), w.heap[g]? = some (.cells cs t (0, 0)) → (w.setCells g o l).heap[g]? = some (.cells (setL cs o l) t (0, 0))
  | [], _, _, _, _, _, h => h
  | v :: r, o, w, g, cs, t, h => setCells_heap r (o + 1) _ g _ t (heap_setCell_same w g o cs _ v h)

section
variable {ops : Array Oper} {rest : List Oper} {d : Option Tmp} {x y : Operand} {xs : Array (Nat × Operand)} {t : TypeId} {s : String} {af : Array Edge} {gd : Option (Nat × Bool)} {a : Act} {w : World} {Q : Exit → Act → World → Prop}
theorem at_loadQ (h : wpList Try.prog ops Q (⟨d, .load 91 x, t, s, af, gd⟩ :: rest) a w) : wpList Try.prog ops Q (⟨d, .load 91 x, t, s, af, gd⟩ :: rest) a w := h
theorem at_storeQ (h : wpList Try.prog ops Q (⟨d, .store 91 x y, t, s, af, none⟩ :: rest) a w) : wpList Try.prog ops Q (⟨d, .store 91 x y, t, s, af, none⟩ :: rest) a w := h
theorem at_storeM (h : wpList Try.prog ops Q (⟨d, .store 58 x y, t, s, af, none⟩ :: rest) a w) : wpList Try.prog ops Q (⟨d, .store 58 x y, t, s, af, none⟩ :: rest) a w := h
theorem at_buildM (h : wpList Try.prog ops Q (⟨d, .build 58 xs, t, s, af, none⟩ :: rest) a w) : wpList Try.prog ops Q (⟨d, .build 58 xs, t, s, af, none⟩ :: rest) a w := h
end
/-- A port: what was heard there last. -/
structure Kp where
  up : Bool
  heard : Bool
  when_ : Int
  vec : Vc
  path : List Int
theorem neq_tag {w : World} {r g : Nat} {c1 c2 : Array Value} {t1 t2 : TypeId} {f1 f2 : Nat × Nat} (h1 : w.heap[r]? = some (.cells c1 t1 f1)) (h2 : w.heap[g]? = some (.cells c2 t2 f2)) (ht : t1 ≠ t2) : r ≠ g := fun e => by
  subst e
  rw [h1] at h2
  injection h2 with h2
  injection h2 with _ h2 _
  exact ht h2
/-- A tree in plain numbers. -/
structure Ts where
  dom : Int
  own : Pri
  most : Int
  n : Nat
  ports : Nat → Kp
def KC (k : Kp) (u : Value) : Array Value := #[.bool k.up, .bool k.heard, .int .i64 k.when_, .int .i64 k.vec.r.one, .int .i64 k.vec.r.cls, .int .i64 k.vec.r.two, .int .i64 k.vec.r.id, .int .i64 k.vec.steps, .int .i64 k.vec.from_, .int .i64 k.vec.port, .int .i64 k.vec.at_, u]
def TC (t : Ts) (v : Value) : Array Value := #[.int .i64 t.dom, .int .i64 t.own.one, .int .i64 t.own.cls, .int .i64 t.own.two, .int .i64 t.own.id, .int .i64 t.most, v]
/-- A port's cells, and its path. -/
structure TrI (w : World) (b g : Nat) (t : Ts) (us : Nat → Value) : Prop where
  box : w.heap[b]? = some (.cells (TC t (.slice (some ⟨g, 0, none⟩) t.n t.n)) 89 (0, 0))
  row : ∃ cs, w.heap[g]? = some (.cells cs 91 (0, 0)) ∧ cs.size = t.n * 12 ∧ ∀ k, k < t.n → ∀ j x, (KC (t.ports k) (us k)).toList[j]? = some x → cs[k * 12 + j]? = some x
  path : ∀ k, k < t.n → PA w (us k) (t.ports k).path
def Tr (w : World) (b g : Nat) (t : Ts) : Prop := ∃ us, TrI w b g t us
section
variable {w w' : World} {b g : Nat} {t : Ts} {us : Nat → Value}
theorem TrI.keep (h : TrI w b g t us) (hk : ∀ (k : Nat) (cs : Array Value) (ty : TypeId) (fr : Nat × Nat), w.heap[k]? = some (.cells cs ty fr) → ty ≠ 91 ∨ k = g → w'.heap[k]? = w.heap[k]?) : TrI w' b g t us := by
  obtain ⟨cs, h1, h2, h3⟩ := h.row
  exact ⟨(hk _ _ _ _ h.box (.inl (by decide))).trans h.box, ⟨cs, (hk _ _ _ _ h1 (.inr rfl)).trans h1, h2, h3⟩, fun k hk' => (h.path k hk').keep fun i cs fr hi => hk i cs _ fr hi (.inl (by decide))⟩
theorem TrI.below (h : TrI w b g t us) (hb : Below w.heap.size w w') : TrI w' b g t us := h.keep fun k _ _ _ hk _ => hb.block k (lt_of_heap hk)
theorem Tr.below (h : Tr w b g t) (hb : Below w.heap.size w w') : Tr w' b g t := by obtain ⟨us, h⟩ := h; exact ⟨us, h.below hb⟩
/-- Another tree's ports turn. -/
theorem Tr.other (h : Tr w b g t) {q : Nat} (hb : ButB q w w') {cs : Array Value} {fr : Nat × Nat} (hq : w.heap[q]? = some (.cells cs 91 fr)) (hn : q ≠ g) : Tr w' b g t := by
  obtain ⟨us, h⟩ := h
  refine ⟨us, h.keep fun k cs' ty fr' hk ht => hb.block k (lt_of_heap hk) (fun e => ?_)⟩
  subst e
  rcases ht with ht | ht
  · rw [hk] at hq
    injection hq with hq
    injection hq with _ hq _
    exact ht hq
  · exact hn ht
theorem TrI.lt (h : TrI w b g t us) : b < w.heap.size := lt_of_heap h.box
theorem TrI.glt (h : TrI w b g t us) : g < w.heap.size := by obtain ⟨cs, h1, _⟩ := h.row; exact lt_of_heap h1
theorem TrI.c0 (h : TrI w b g t us) : w.cell? ⟨b, 0, none⟩ = some (.int .i64 t.dom) := cell_of_row _ _ 0 _ _ _ h.box
theorem TrI.c1 (h : TrI w b g t us) : w.cell? ⟨b, 1, none⟩ = some (.int .i64 t.own.one) := cell_of_row _ _ 1 _ _ _ h.box
theorem TrI.c2 (h : TrI w b g t us) : w.cell? ⟨b, 2, none⟩ = some (.int .i64 t.own.cls) := cell_of_row _ _ 2 _ _ _ h.box
theorem TrI.c3 (h : TrI w b g t us) : w.cell? ⟨b, 3, none⟩ = some (.int .i64 t.own.two) := cell_of_row _ _ 3 _ _ _ h.box
theorem TrI.c4 (h : TrI w b g t us) : w.cell? ⟨b, 4, none⟩ = some (.int .i64 t.own.id) := cell_of_row _ _ 4 _ _ _ h.box
theorem TrI.c5 (h : TrI w b g t us) : w.cell? ⟨b, 5, none⟩ = some (.int .i64 t.most) := cell_of_row _ _ 5 _ _ _ h.box
theorem TrI.c6 (h : TrI w b g t us) : w.cell? ⟨b, 6, none⟩ = some (.slice (some ⟨g, 0, none⟩) t.n t.n) := cell_of_row _ _ 6 _ _ _ h.box
theorem TrI.port (h : TrI w b g t us) {k : Nat} (hk : k < t.n) : w.rangeAt g (k * 12) (KC (t.ports k) (us k)).toList := by
  obtain ⟨cs, h1, h2, h3⟩ := h.row
  intro j x hj
  rw [cell_of_row _ _ _ _ _ _ h1]
  exact h3 k hk j x hj
end
def up1 {α : Type} (f : Nat → α) (k : Nat) (v : α) : Nat → α := fun i => if i = k then v else f i
theorem up1_same {α : Type} (f : Nat → α) (k : Nat) (v : α) : up1 f k v k = v := if_pos rfl
theorem up1_other {α : Type} (f : Nat → α) {k i : Nat} (v : α) (h : i ≠ k) : up1 f k v i = f i := if_neg h
def Ts.set (t : Ts) (k : Nat) (p : Kp) : Ts := { t with ports := up1 t.ports k p }
theorem KC_len (k : Kp) (u : Value) : (KC k u).toList.length = 12 := rfl
/-- A port turns. -/
theorem TrI.set {w : World} {b g : Nat} {t : Ts} {us : Nat → Value} (h : TrI w b g t us) {k : Nat} (hk : k < t.n) (p : Kp) (u : Value) (hu : PA w u p.path) : TrI (w.setCells g (k * 12) (KC p u).toList) b g (t.set k p) (up1 us k u) := by
  obtain ⟨cs, h1, h2, h3⟩ := h.row
  have hb := (ButB.refl g w).sets (KC p u).toList (k * 12)
  have keep : ∀ (i : Nat) (c : Array Value) (ty : TypeId) (fr : Nat × Nat), w.heap[i]? = some (.cells c ty fr) → ty ≠ 91 → (w.setCells g (k * 12) (KC p u).toList).heap[i]? = w.heap[i]? := fun i c ty fr hi ht => hb.block i (lt_of_heap hi) (fun e => by
    subst e
    rw [hi] at h1
    injection h1 with h1
    injection h1 with _ h1 _
    exact ht h1)
  refine ⟨(keep _ _ _ _ h.box (by decide)).trans h.box, ⟨_, setCells_heap _ _ _ _ _ _ h1, by rw [setL_size]; exact h2, fun i hi j x hj => ?_⟩, fun i hi => ?_⟩
  · have hj12 : j < 12 := by have := (List.getElem?_eq_some_iff.1 hj).1; rwa [KC_len] at this
    by_cases e : i = k
    · subst e
      rw [show (t.set i p).ports i = p from up1_same _ _ _, up1_same] at hj
      have hle : (i + 1) * 12 ≤ t.n * 12 := Nat.mul_le_mul_right 12 hi
      exact setL_in _ _ _ _ _ (by rw [KC_len, h2]; omega) hj
    · rw [show (t.set k p).ports i = t.ports i from up1_other _ _ e, up1_other _ _ e] at hj
      rw [setL_out _ _ _ _ (by rw [KC_len]; omega)]
      exact h3 i hi j x hj
  · by_cases e : i = k
    · subst e
      rw [show (t.set i p).ports i = p from up1_same _ _ _, up1_same]
      exact hu.keep fun q c fr hq => keep q c _ fr hq (by decide)
    · rw [show (t.set k p).ports i = t.ports i from up1_other _ _ e, up1_other _ _ e]
      exact (h.path i hi).keep fun q c fr hq => keep q c _ fr hq (by decide)
/-- A port may be written. -/
theorem TrI.there {w : World} {b g : Nat} {t : Ts} {us : Nat → Value} (h : TrI w b g t us) {k : Nat} (hk : k < t.n) : w.there g (k * 12) 12 := by
  obtain ⟨cs, h1, h2, h3⟩ := h.row
  intro j hj
  have hle : (k + 1) * 12 ≤ t.n * 12 := Nat.mul_le_mul_right 12 hk
  refine ⟨?_, frozen_of_row _ _ _ _ _ h1⟩
  rw [cell_of_row _ _ _ _ _ _ h1, Array.getElem?_eq_getElem (by omega)]
  rfl

end Go.Proofs.Ytholemjbjmkpkaa

/- Package tree: hasPort, holds, Best, Root. -/
namespace Go.Proofs.Ytholemjbjmkpkaa
open Go.RowKit Go.Joins Go.Deep

def Ts.has (t : Ts) (at_ : Int) : Bool := decide (0 ≤ at_) && decide (at_ < (t.n : Int))
theorem has_any {w : World} {b g : Nat} {t : Ts} (h : Tr w b g t) (at_ : Int) : Calls Try.prog 36 #[.pointer (some ⟨b, 0, none⟩), .int .i64 at_] w fun e w' => e = .returned (.bool (t.has at_)) ∧ w = w' := by
  obtain ⟨us, h⟩ := h
  have c6 := h.c6
  unfold Ts.has
  clear h
  generalize t.n = n at *
  by_cases h0 : 0 ≤ at_
  · have d0 : decide (0 ≤ at_) = true := decide_eq_true h0
    rw [d0, Bool.true_and]
    go_enter Try.func36, Try.ntmps36
    go_wp2_with fail
    go_ret
    exact ⟨rfl, rfl⟩
  · have d0 : decide (0 ≤ at_) = false := decide_eq_false h0
    rw [d0, Bool.false_and]
    go_enter Try.func36, Try.ntmps36
    go_wp2_with fail
    go_ret
    exact ⟨rfl, rfl⟩
theorem has_nil (at_ : Int) (w : World) : Calls Try.prog 36 #[.pointer none, .int .i64 at_] w fun e w' => e = .returned (.bool false) ∧ w = w' := by
  go_enter Try.func36, Try.ntmps36
  go_wp2_with fail
  go_ret
  exact ⟨rfl, rfl⟩
/-- Something was heard, not too long ago. -/
def Kp.holds (k : Kp) (now most : Int) : Bool := k.heard && (decide (k.when_ ≤ now) && decide (now - k.when_ ≤ most))
theorem u64sub (a b : Int) (ha : In64 a) (hb : In64 b) (h : b ≤ a) : IntKind.u64.wrap (IntKind.u64.wrap a - IntKind.u64.wrap b) = a - b := by
  unfold In64 at ha hb
  simp only [IntKind.wrap_u64]
  omega
theorem u64id (a : Int) (h0 : 0 ≤ a) (h1 : a < 18446744073709551616) : IntKind.u64.wrap a = a := by simp only [IntKind.wrap_u64]; omega
theorem holds_any (k : Kp) (p : Option Addr) (l c : Nat) (now most : Int) (w : World) (hw : In64 k.when_) (hn : In64 now) (h0 : 0 ≤ most) (h1 : most ≤ 1099511627776) :
    Calls Try.prog 35 #[.agg (KC k (.slice p l c)), .int .i64 now, .int .i64 most] w fun e w' => e = .returned (.bool (k.holds now most)) ∧ Below w.heap.size w w' := by
  obtain ⟨up, heard, when_, vec, path⟩ := k
  unfold Kp.holds KC
  dsimp only at hw ⊢
  cases heard with
  | false =>
    clear hw hn h0 h1
    go_enter Try.func35, Try.ntmps35
    go_wp2_with fail
    go_ret
    exact ⟨rfl, bAl (bRef w) _⟩
  | true =>
    by_cases hl : when_ ≤ now
    · have e1 := u64sub now when_ hn hw hl
      have e2 := u64id most h0 (by omega)
      have d1 : decide (when_ ≤ now) = true := decide_eq_true hl
      rw [d1]
      have H1 := Lib.hid e1
      clear hw hn h0 h1 hl
      go_enter Try.func35, Try.ntmps35
      go_wp2_with fail
      go_ret
      exact ⟨rfl, bAl (bRef w) _⟩
    · have d1 : decide (when_ ≤ now) = false := decide_eq_false hl
      rw [d1]
      clear hw hn h0 h1 hl
      go_enter Try.func35, Try.ntmps35
      go_wp2_with fail
      go_ret
      exact ⟨rfl, bAl (bRef w) _⟩

end Go.Proofs.Ytholemjbjmkpkaa
