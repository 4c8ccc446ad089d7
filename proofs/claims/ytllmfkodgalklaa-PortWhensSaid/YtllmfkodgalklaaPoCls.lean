/- Rows of ints; which classes wait; whether one fits; when a gate opens. -/
import Derived.Test.YtllmfkodgalklaaPoNext
import Derived.OwnWalk
import Derived.Laws.OwnMore
namespace Go.Proofs.Ytllmfkodgalklaa
open Go.RowKit Go.Joins

def LA (w : World) (v : Value) (xs : List Int) : Prop :=
  (xs = [] ∧ ∃ a c, v = .slice a 0 c) ∨ (0 < xs.length ∧ ∃ b o c, v = .slice (some ⟨b, o, none⟩) xs.length c ∧ (∃ cur fr, w.heap[b]? = some (.cells cur 3 fr)) ∧ ∀ k, k < xs.length → w.cell? ⟨b, o + k, none⟩ = some (.int .i64 (xs.getD k 0)))
theorem LA.below {w w' : World} {v : Value} {xs : List Int} (h : LA w v xs) (hb : Below w.heap.size w w') : LA w' v xs := by
  rcases h with h | ⟨h0, b, o, c, e, hl, hc⟩
  · exact .inl h
  · obtain ⟨cur, fr, hg⟩ := hl
    exact .inr ⟨h0, b, o, c, e, ⟨cur, fr, (hb.block b (lt_of_heap hg)).trans hg⟩, fun k hk => (hb.cell (lt_of_heap hg)).trans (hc k hk)⟩
theorem LA.slice {w : World} {v : Value} {xs : List Int} (h : LA w v xs) : ∃ p c, v = .slice p xs.length c := by
  rcases h with ⟨rfl, a, c, rfl⟩ | ⟨h0, b, o, c, rfl, _⟩
  · exact ⟨a, c, rfl⟩
  · exact ⟨_, c, rfl⟩
/-- All rows of ints are as they were. -/
theorem LA.keep {w w' : World} {v : Value} {xs : List Int} (h : LA w v xs) (hk : ∀ (b : Nat) (cur : Array Value) (fr : Nat × Nat), w.heap[b]? = some (.cells cur 3 fr) → w'.heap[b]? = some (.cells cur 3 fr)) : LA w' v xs := by
  rcases h with h | ⟨h0, b, o, c, e, ⟨cur, fr, hg⟩, hc⟩
  · exact .inl h
  · refine .inr ⟨h0, b, o, c, e, ⟨cur, fr, hk b cur fr hg⟩, fun k hk' => ?_⟩
    rw [cell_of_row _ _ _ _ _ _ (hk b cur fr hg), ← cell_of_row _ _ _ _ _ _ hg]
    exact hc k hk'
theorem Try.infoI : (Try.prog.info? 3).map (fun i => (i.zero, i.size, i.bytes)) = some (some (.int .i64 0), 1, 8) := by kernel_rfl
def iv (xs : List Int) : List Value := xs.map (fun x => .int .i64 x)
theorem iv_len (xs : List Int) : (iv xs).length = xs.length := by simp [iv]
theorem iv_app (xs ys : List Int) : iv (xs ++ ys) = iv xs ++ iv ys := by simp [iv]
/-- A row of ints of the call's own. -/
def OI (B : Nat) (w : World) (v : Value) (xs : List Int) : Prop := w.ownsRow B 3 1 v xs.length (iv xs)
theorem OI.form {B : Nat} {w : World} {v : Value} {xs : List Int} (h : OI B w v xs) : ∃ p c, v = .slice p xs.length c := by
  rcases h.2 with ⟨rfl, hz⟩ | ⟨g, cap, cur, rfl, _⟩
  · exact ⟨none, 0, by rw [hz]⟩
  · exact ⟨_, _, rfl⟩
theorem OI.la {B : Nat} {w : World} {v : Value} {xs : List Int} (h : OI B w v xs) : LA w v xs := by
  have h' := h
  rcases h.2 with ⟨rfl, hz⟩ | ⟨g, cap, cur, rfl, hb, hg, hn, hm, hs, ht⟩
  · exact .inl ⟨List.eq_nil_of_length_eq_zero hz, none, 0, rfl⟩
  · rcases Nat.eq_zero_or_pos xs.length with h0 | h0
    · exact .inl ⟨List.eq_nil_of_length_eq_zero h0, some ⟨g, 0, none⟩, cap, by rw [h0]⟩
    · refine .inr ⟨h0, g, 0, cap, rfl, ⟨_, _, hg⟩, fun k hk => ?_⟩
      rw [Nat.zero_add, World.ownsRow.cellAt h' k (by omega)]
      simp [iv, List.getD_eq_getElem?_getD, List.getElem?_eq_getElem hk]
theorem OI.below {B : Nat} {w w' : World} {v : Value} {xs : List Int} (h : OI B w v xs) (hb : Below w.heap.size w w') : OI B w' v xs := by
  refine ⟨h.1, ?_⟩
  rcases h.2 with ⟨rfl, hz⟩ | ⟨g, cap, cur, rfl, a1, hg, a3⟩
  · exact .inl ⟨rfl, hz⟩
  · exact .inr ⟨g, cap, cur, rfl, a1, (hb.block _ (lt_of_heap hg)).trans hg, a3⟩
theorem OI.made {B : Nat} {w : World} {g : Nat} (hg : w.heap[g]? = some (.cells #[] 3 (0, 0))) (hB : B ≤ g) : OI B w (.slice (some ⟨g, 0, none⟩) 0 0) [] :=
  ⟨rfl, .inr ⟨g, 0, #[], rfl, hB, hg, Nat.le_refl _, Nat.zero_le _, rfl, rfl⟩⟩
theorem OI.one {B : Nat} {w : World} {g : Nat} {x : Int} (hg : w.heap[g]? = some (.cells #[.int .i64 x] 3 (0, 0))) (hB : B ≤ g) : OI B w (.slice (some ⟨g, 0, none⟩) 1 1) [x] :=
  ⟨rfl, .inr ⟨g, 1, _, rfl, hB, hg, Nat.le_refl _, by unfold maxLen; omega, rfl, rfl⟩⟩
theorem addn (b o i : Nat) : (⟨b, o, none⟩ : Addr).add i = ⟨b, o + i, none⟩ := by unfold Addr.add; split <;> simp_all
/-- Ints are appended to a row of the call's own. -/
theorem wpList_appI {ops : Array Oper} {rest : List Oper} {o : Oper} {a : Act} {w : World} {Q : Exit → Act → World → Prop} (hgd : o.guard = none) (s x : Operand)
    (ho : o.op = .call { callee := .builtin .append, args := #[s, x], argTypes := #[61, 61] })
    (B : Nat) (v u : Value) (xs ys : List Int) (hs : a.eval s = v) (hx : a.eval x = u) (hown : OI B w v xs) (hu : LA w u ys) (h0 : 0 < ys.length) (hB : B ≤ w.heap.size) (hl : xs.length + ys.length ≤ 1000)
    (h : ∀ v' w', OI B w' v' (xs ++ ys) → Below B w w' → wpList Try.prog ops Q rest (a.put o.dst v') w') : wpList Try.prog ops Q (o :: rest) a w := by
  obtain ⟨i0, hi, hz0, hz1, hz2⟩ := info_parts Try.infoI
  have hown' : w.ownsRow B 3 1 v xs.length (iv xs) := hown
  rcases hu with ⟨rfl, _⟩ | ⟨_, b, oo, c, rfl, hlt, hc⟩
  · simp at h0
  refine wpList_append_own _ hgd s x 61 ho B 3 i0 _ 1 8 Try.underlying61 hi hz0 hz1 hz2 rfl (by decide) v xs.length (iv xs) hs hown' ⟨b, oo, none⟩ ys.length c (iv ys) hx (by rw [iv_len]; omega) (fun j e he => ?_) (fun e he => ?_) (by unfold maxLen; omega) (by omega) hB ?_
  · have hj : j < ys.length := by
      have := (List.getElem?_eq_some_iff.1 he).1
      rwa [iv_len] at this
    rw [addn, hc j hj, ← he]
    simp [iv, List.getD_eq_getElem?_getD, List.getElem?_eq_getElem hj]
  · simp [iv] at he
    obtain ⟨y, _, rfl⟩ := he
    rfl
  · intro v' w' h1 h2 _
    refine h v' w' ?_ ((Below.refl B w).grown h2 hB (fun k hk => (hown'.lt k hk).1))
    have e : iv (xs ++ ys) = iv xs ++ iv ys := iv_app xs ys
    unfold OI
    rw [e, List.length_append]
    exact h1
theorem la_one' (x : Int) (g : Nat) {w : World} (hg : w.heap[g]? = some (.cells #[.int .i64 x] 3 (0, 0))) : LA w (.slice (some ⟨g, 0, none⟩) 1 1) [x] :=
  .inr ⟨by simp, g, 0, 1, rfl, ⟨_, _, hg⟩, fun k hk => by
    have : k = 0 := by simp at hk; omega
    subst this
    exact cell_of_row _ _ _ _ _ _ hg⟩
theorem OI.nil {B : Nat} (w : World) : OI B w (.slice none 0 0) [] := ⟨rfl, .inl ⟨rfl, rfl⟩⟩
theorem OI.low {B : Nat} {w : World} {v : Value} {xs : List Int} (h : OI B w v xs) : ∀ j, v.ownBlock = some j → B ≤ j := fun j e => by
  rcases h.2 with ⟨rfl, _⟩ | ⟨g, cap, cur, rfl, hb, _⟩
  · simp [Value.ownBlock] at e
  · simp [Value.ownBlock] at e
    omega
theorem LA.own {w w' : World} {v : Value} {xs : List Int} (h : LA w v xs) (hk : ∀ j, j < w.heap.size → v.ownBlock = some j → w'.heap[j]? = w.heap[j]?) : LA w' v xs := by
  rcases h with h | ⟨h0, b, o, c, e, ⟨cur, fr, hg⟩, hc⟩
  · exact .inl h
  · have hb := hk b (lt_of_heap hg) (by rw [e]; rfl)
    exact .inr ⟨h0, b, o, c, e, ⟨cur, fr, hb.trans hg⟩, fun k hk => (World.cell?_of_block hb).trans (hc k hk)⟩
/-- The classes below k of which something waits. -/
def clsN (s : LS) : Nat → List Int
  | 0 => []
  | k + 1 => if 0 < (s.q k).length then clsN s k ++ [(k : Int)] else clsN s k
theorem clsN_len (s : LS) : ∀ k, (clsN s k).length ≤ k
  | 0 => Nat.le_refl _
  | k + 1 => by
    have := clsN_len s k
    unfold clsN
    split
    · simp; omega
    · omega
theorem clsN_mem (s : LS) (x : Int) : ∀ k, x ∈ clsN s k ↔ ∃ c : Nat, c < k ∧ x = (c : Int) ∧ 0 < (s.q c).length
  | 0 => ⟨fun h => by simp [clsN] at h, fun ⟨c, h, _⟩ => by omega⟩
  | k + 1 => by
    have ih := clsN_mem s x k
    unfold clsN
    constructor
    · intro h
      split at h
      · rename_i hk
        rcases List.mem_append.1 h with h | h
        · obtain ⟨c, h1, h2⟩ := ih.1 h
          exact ⟨c, by omega, h2⟩
        · simp at h
          exact ⟨k, by omega, h, hk⟩
      · obtain ⟨c, h1, h2⟩ := ih.1 h
        exact ⟨c, by omega, h2⟩
    · rintro ⟨c, h1, h2, h3⟩
      rcases Nat.lt_or_ge c k with g | g
      · split
        · exact List.mem_append_left _ (ih.2 ⟨c, g, h2, h3⟩)
        · exact ih.2 ⟨c, g, h2, h3⟩
      · obtain rfl : c = k := by omega
        rw [if_pos h3]
        simp [h2]
theorem at_appC {ops : Array Oper} {rest : List Oper} {d : Option Tmp} {t : TypeId} {s : String} {af : Array Edge} {a : Act} {w : World} {Q : Exit → Act → World → Prop}
    (h : wpList Try.prog ops Q ({ dst := d, op := .call { callee := .builtin .append, args := #[.tmp 12, .tmp 14], argTypes := #[61, 61] }, type := t, pos := s, after := af, guard := none } :: rest) a w) :
    wpList Try.prog ops Q ({ dst := d, op := .call { callee := .builtin .append, args := #[.tmp 12, .tmp 14], argTypes := #[61, 61] }, type := t, pos := s, after := af, guard := none } :: rest) a w := h
def CsRel (W : World) (s : LS) (vv iv : Value) (wr : World) : Prop :=
  ∃ k : Nat, k ≤ 8 ∧ iv = .int .i64 (k : Int) ∧ OI W.heap.size wr vv (clsN s k) ∧ Below W.heap.size W wr
theorem pclasses_nil (W : World) : Calls Try.prog 33 #[.pointer none] W fun e w' => e = .returned (.slice none 0 0) ∧ w' = W := by
  have HL := Lib.hid (fun c W => plen_nil c W)
  go_enter Try.func33, Try.ntmps33
  go_wp2_with fail
  go_loopw [3, 5] (fun vv iv wr => W = wr ∧ vv = .slice none 0 0 ∧ ∃ k : Nat, k ≤ 8 ∧ iv = .int .i64 (k : Int)) (fun _ iv _ => 8 - (intOf iv).toNat)
  case atStart => exact ⟨(by first | trivial | rfl), (by first | trivial | rfl), 0, by omega, rfl⟩
  case round =>
    obtain ⟨rfl, rfl, k, hk, rfl⟩ := hrel
    rcases Nat.lt_or_ge k 8 with g | g
    · have d0 : decide ((k : Int) < 8) = true := decide_eq_true (by omega)
      go_wp2_with (go_at_call 16; (with_reducible refine (HL.out _ _).mono ?_); rintro e w1 ⟨rfl, rfl⟩)
      go_roundw
      case rel => exact ⟨(by first | trivial | rfl), (by first | trivial | rfl), k + 1, by omega, by go_num⟩
      case measure => simp [intOf]; omega
    · obtain rfl : k = 8 := by omega
      have d0 : decide (((8 : Nat) : Int) < 8) = false := by decide
      go_wp2_with fail
      go_ret
      exact ⟨rfl, rfl⟩
section
variable {w0 W : World} {k L : Nat} {F : Nat → Prop} {p : PL} {s : LS}
theorem pclasses (h : PoL w0 W k L F p s) : Calls Try.prog 33 #[.pointer (some ⟨k, 0, none⟩)] W fun e w' => ∃ v, e = .returned v ∧ LA w' v (clsN s 8) ∧ (∀ j, v.ownBlock = some j → W.heap.size ≤ j) ∧ Below W.heap.size W w' := by
  have HL := Lib.hid (fun W' (hb : Below W.heap.size W W') (c : Nat) => plen (h.below hb) (c : Int))
  go_enter Try.func33, Try.ntmps33
  go_wp2_with fail
  go_loopw [3, 5] (fun vv iv wr => CsRel W s vv iv wr) (fun _ iv _ => 8 - (intOf iv).toNat)
  case atStart => exact ⟨0, by omega, rfl, OI.nil W, bRef W⟩
  case round =>
    obtain ⟨i, hi, rfl, ho, hb⟩ := hrel
    have HO := Lib.hid ho
    have HB := Lib.hid hb
    have HLi := Lib.hid (HL.out _ hb i)
    obtain ⟨vp, vc, rfl⟩ := ho.form
    have HLN := Lib.hid (clsN_len s i)
    clear ho hb
    rcases Nat.lt_or_ge i 8 with g | g
    · have d0 : decide ((i : Int) < 8) = true := decide_eq_true (by omega)
      have el : s.len (i : Int) = ((s.q i).length : Int) := by unfold LS.len; rw [if_neg (by omega)]; simp
      rw [el] at HLi
      generalize hvn : (clsN s i).length = vn at *
      have HVN := Lib.hid hvn
      by_cases hq : 0 < (s.q i).length
      · have d1 : decide (0 < ((s.q i).length : Int)) = true := decide_eq_true (by omega)
        have d1n : decide (0 < (s.q i).length) = true := decide_eq_true (by omega)
        have HN : Hid (clsN s (i + 1) = clsN s i ++ [(i : Int)]) := Lib.hid (by show (if 0 < (s.q i).length then _ else _) = _; rw [if_pos hq])
        clear hq el hvn
        go_wp2_with (first
          | (go_at_call 16; (with_reducible refine (HLi.out).mono ?_); rintro e w1 ⟨rfl, rfl⟩)
          | (at_builtin; refine wpList_appI rfl _ _ rfl W.heap.size _ _ (clsN s i) [(i : Int)] rfl rfl (HO.out.below (bAl (bRef _) _)) (la_one' _ _ (heap_alloc_one _ _)) (by simp) (by have := HB.out.size; simp; omega) (by have := HLN.out; have := HVN.out; simp; omega) ?_; intro v4 w4 ho hb; have HO4 := Lib.hid ho; have HB4 := Lib.hid (HB.out.trans ((Below.mono (bAl (bRef _) (.cells #[.int .i64 (i : Int)] 3)) HB.out.size).trans hb)); obtain ⟨p4, c4, rfl⟩ := ho.form; clear ho hb))
        go_roundw
        case rel => exact ⟨i + 1, by omega, by go_num, by rw [HN.out]; have h := HO4.out; simp only [List.length_append, List.length_singleton] at h; exact h, HB4.out⟩
        case measure => simp [intOf]; omega
      · have d1 : decide (0 < ((s.q i).length : Int)) = false := decide_eq_false (by omega)
        have d1n : decide (0 < (s.q i).length) = false := decide_eq_false (by omega)
        have HN : Hid (clsN s (i + 1) = clsN s i) := Lib.hid (by show (if 0 < (s.q i).length then _ else _) = _; rw [if_neg hq])
        clear hq el hvn
        go_wp2_with (go_at_call 16; (with_reducible refine (HLi.out).mono ?_); rintro e w1 ⟨rfl, rfl⟩)
        go_roundw
        case rel => exact ⟨i + 1, by omega, by go_num, by rw [HN.out]; exact HO.out, HB.out⟩
        case measure => simp [intOf]; omega
    · obtain rfl : i = 8 := by omega
      have d0 : decide (((8 : Nat) : Int) < 8) = false := by decide
      go_wp2_with fail
      go_ret
      exact ⟨_, rfl, HO.out.la, HO.out.low, HB.out⟩
end

end Go.Proofs.Ytllmfkodgalklaa
