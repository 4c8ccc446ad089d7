/- Package ether: numbers of two bytes laid behind others. -/
import Derived.Test.YtbpkjljienadiaaENum
import Derived.Test.YtbpkjljienadiaaClose
namespace Go.Proofs.Ytbpkjljienadiaa
open Go.RowKit Go.Joins

/-- All that is no row of bytes is as it was. -/
def Oth (w w' : World) : Prop := ∀ (k : Nat) (cs : Array Value) (t : TypeId) (fr : Nat × Nat), w.heap[k]? = some (.cells cs t fr) → t ≠ 5 → w'.heap[k]? = some (.cells cs t fr)
theorem Oth.refl (w : World) : Oth w w := fun _ _ _ _ h _ => h
theorem Oth.trans {w w1 w2 : World} (h : Oth w w1) (k : Oth w1 w2) : Oth w w2 := fun i cs t fr hi ht => k i cs t fr (h i cs t fr hi ht) ht
theorem Oth.below {w w1 : World} (h : Below w.heap.size w w1) : Oth w w1 := fun i cs t fr hi _ => by
  rw [h.block i (by rcases Nat.lt_or_ge i w.heap.size with g | g; exact g; rw [Array.getElem?_eq_none g] at hi; cases hi), hi]
theorem Oth.drewN {w w1 : World} (h : Oth w w1) (n : Nat) : Oth w (w1.drewN n) := h
theorem Oth.drew {w w1 : World} (h : Oth w w1) : Oth w w1.drew := h

/-- The law of an append to what the call owns: what else is kept. -/
theorem wpList_appo {ops : Array Oper} {rest : List Oper} {o : Oper} {a : Act} {Q : Exit → Act → World → Prop} (hgd : o.guard = none) (s x : Operand)
    (ho : o.op = .call { callee := .builtin .append, args := #[s, x], argTypes := #[24, 24] })
    (w0 w : World) (v u : Value) (os xs : List Nat) (hs : a.eval s = v) (hx : a.eval x = u) (hown : OwnB w0 w v os) (harg : BArg w u xs) (hl : os.length + xs.length ≤ 140737488355328)
    (h : ∀ v' w', OwnB w0 w' v' (os ++ xs) → Oth w w' → wpList Try.prog ops Q rest (a.put o.dst v') w') : wpList Try.prog ops Q (o :: rest) a w := by
  obtain ⟨i0, hi, hz0, hz1, hz2⟩ := info_parts Try.infoU8
  have hb0 := hown.bel
  have hblk : ∀ k, v.ownBlock = some k → ∃ cs fr, w.heap[k]? = some (.cells cs 5 fr) := by
    intro k hk
    rcases hown.1.2 with ⟨e, _⟩ | ⟨g, cap, cur, e, _, hg, _⟩
    · exact absurd e hown.2.2.2
    · subst e
      simp [Value.ownBlock] at hk
      subst hk
      exact ⟨_, _, hg⟩
  have key : ∀ ad m c, u = .slice (some ad) m c → m = xs.length → (∀ j e, (bv xs)[j]? = some e → w.cell? (ad.add j) = some e) → wpList Try.prog ops Q (o :: rest) a w := by
    intro ad m c hu hm hc
    subst hm
    refine wpList_append_own w hgd s x 24 ho w0.heap.size 5 i0 (.int .u8 0) 1 1 Try.underlying24 hi hz0 hz1 hz2 rfl (by decide) v os.length (bv os) hs hown.1 ad xs.length c (bv xs) (hx.trans hu) (by rw [bv_len]; omega) hc (bv_one xs) (by unfold maxLen; omega) (by omega) hb0.size ?_
    intro v' w' h1 h2 h3
    refine h v' w' ⟨?_, hb0.grown h2 hb0.size (fun k hk => (hown.1.lt k hk).1), bytes_app hown.2.2.1 harg.1, fun e => hown.2.2.2 (h3.1 e).1⟩ ?_
    · have e : bv (os ++ xs) = bv os ++ bv xs := by simp [bv]
      rw [e, List.length_append]
      exact h1
    · intro k cs t fr hk ht
      rw [h2.block k (by rcases Nat.lt_or_ge k w.heap.size with g | g; exact g; rw [Array.getElem?_eq_none g] at hk; cases hk) (fun e => ?_), hk]
      obtain ⟨cs2, fr2, h5⟩ := hblk k e.symm
      rw [hk] at h5
      injection h5 with h6
      injection h6 with _ h7 _
      exact ht h7
  rcases harg.2 with ⟨rfl, p, c, rfl, hp⟩ | ⟨h0, b, o', c, rfl, hc, hr⟩
  · cases p with
    | some ad => exact key ad 0 c rfl rfl (fun j e he => by simp [bv] at he)
    | none =>
      obtain rfl := hp rfl
      refine wpList_append_own_none hgd s x 24 ho w0.heap.size 5 i0 1 Try.underlying24 hi v os.length (bv os) hs hown.1 hx ?_
      have := h v w (by rw [List.append_nil]; exact hown) (Oth.refl w)
      exact this
  · refine key _ _ c rfl rfl (fun j e he => ?_)
    have hj : j < xs.length := by
      have := (List.getElem?_eq_some_iff.1 he).1
      rwa [bv_len] at this
    rw [bv_at hj] at he
    rw [addr_add2, (hr h0).2 j hj]
    exact he

/-- Numbers that are read: a slice of int from the head of its array on. -/
def IArg (w : World) (v : Value) (ys : List Nat) : Prop :=
  ∃ g c cs fr, v = .slice (some ⟨g, 0, none⟩) ys.length c ∧ w.heap[g]? = some (.cells cs 3 fr) ∧ ∀ k, k < ys.length → cs[k]? = some (.int .i64 ((ys.getD k 0 : Nat) : Int))
theorem IArg.oth {w w' : World} {v : Value} {ys : List Nat} (h : IArg w v ys) (hb : Oth w w') : IArg w' v ys := by
  obtain ⟨g, c, cs, fr, rfl, hg, hc⟩ := h
  exact ⟨g, c, cs, fr, rfl, hb g cs _ fr hg (by decide), hc⟩
theorem IArg.two (w : World) (a b : Nat) (x y : Int) (hx : x = (a : Int)) (hy : y = (b : Int)) (c : Nat) : IArg (w.alloc (.cells #[.int .i64 x, .int .i64 y] 3)) (.slice (some ⟨w.heap.size, 0, none⟩) 2 c) [a, b] := by
  subst hx hy
  refine ⟨_, c, _, _, rfl, heap_alloc_new w _, fun k hk => ?_⟩
  have : k = 0 ∨ k = 1 := by simp at hk; omega
  rcases this with rfl | rfl <;> rfl
theorem IArg.three (w : World) (a b d : Nat) (x y z : Int) (hx : x = (a : Int)) (hy : y = (b : Int)) (hz : z = (d : Int)) (c : Nat) : IArg (w.alloc (.cells #[.int .i64 x, .int .i64 y, .int .i64 z] 3)) (.slice (some ⟨w.heap.size, 0, none⟩) 3 c) [a, b, d] := by
  subst hx hy hz
  refine ⟨_, c, _, _, rfl, heap_alloc_new w _, fun k hk => ?_⟩
  have : k = 0 ∨ k = 1 ∨ k = 2 := by simp at hk; omega
  rcases this with rfl | rfl | rfl <;> rfl
theorem BArg.two (w : World) (a b : Nat) (x y : Int) (ha : a < 256) (hb : b < 256) (hx : x = (a : Int)) (hy : y = (b : Int)) (t : TypeId) (c : Nat) (hc : 2 ≤ c) : BArg (w.alloc (.cells #[.int .u8 x, .int .u8 y] t)) (.slice (some ⟨w.heap.size, 0, none⟩) 2 c) [a, b] := by
  subst hx hy
  refine ⟨fun z hz => by simp at hz; omega, .inr ⟨by simp, w.heap.size, 0, c, rfl, hc, fun _ => ⟨by simp, fun k hk => ?_⟩⟩⟩
  have : k = 0 ∨ k = 1 := by simp at hk; omega
  rcases this with rfl | rfl <;> simp

def twos (ys : List Nat) : List Nat := ys.flatMap Fr.two
theorem twos_take {ys : List Nat} {k : Nat} (h : k < ys.length) : twos (ys.take (k + 1)) = twos (ys.take k) ++ [ys.getD k 0 / 256 % 256, ys.getD k 0 % 256] := by
  unfold twos
  rw [take_snoc h, List.flatMap_append]
  simp [Fr.two]
theorem twos_len (ys : List Nat) : (twos ys).length = 2 * ys.length := by
  unfold twos
  induction ys with
  | nil => rfl
  | cons y l ih => rw [List.flatMap_cons, List.length_append, ih, Fr.two_len, List.length_cons]; omega

def PutRel (w0 w : World) (os ys : List Nat) (bv iv : Value) (wr : World) : Prop :=
  ∃ k : Nat, k ≤ ys.length ∧ iv = .int .i64 (k : Int) ∧ OwnB w0 wr bv (os ++ twos (ys.take k)) ∧ Oth w wr
theorem put_go {w0 w wr w1 w2 : World} {os ys : List Nat} {k : Nat} {bv : Value} {ki : Int} (hk : k < ys.length) (hki : ki = ((k + 1 : Nat) : Int)) (h : OwnB w0 w2 bv ((os ++ twos (ys.take k)) ++ [ys.getD k 0 / 256 % 256, ys.getD k 0 % 256]))
    (h1 : Oth w wr) (h2 : Oth wr w1) (h3 : Oth w1 w2) : PutRel w0 w os ys bv (.int .i64 ki) w2 := by
  subst hki
  exact ⟨k + 1, hk, rfl, own_eq h (by rw [twos_take hk, List.append_assoc]), (h1.trans h2).trans h3⟩

set_option maxHeartbeats 2000000 in
theorem put_any {w0 w : World} {v lv : Value} {os ys : List Nat} (h : OwnB w0 w v os) (hi : IArg w lv ys) (hy : ∀ k, k < ys.length → ys.getD k 0 < 65536) (hl : os.length ≤ 140737488355000) (hyl : ys.length ≤ 3) :
    Calls Try.prog 35 #[v, lv] w fun e w' => ∃ v', e = .returned v' ∧ OwnB w0 w' v' (os ++ twos ys) ∧ Oth w w' := by
  have HI := Lib.hid hi
  have HO := Lib.hid h
  have HY := Lib.hid hy
  obtain ⟨g, c, cs, fr, rfl, hg, hc⟩ := hi
  clear h hg hc hy
  obtain ⟨n, hn⟩ : ∃ n, n = ys.length := ⟨_, rfl⟩
  rw [← hn] at hyl HI ⊢
  have Hn := Lib.hid hn
  have HL : Hid (∀ k, (os ++ twos (ys.take k)).length + [0, 0].length ≤ 140737488355328) := Lib.hid (fun k => by
    rw [List.length_append, twos_len, List.length_take]; simp only [List.length_cons, List.length_nil]; omega)
  clear hn hl
  go_enter Try.func35, Try.ntmps35
  go_wp2_with fail
  go_loopw [0, 9] (fun bv iv wr => PutRel w0 w os ys bv iv wr) (fun _ iv _ => n - (intOf iv).toNat)
  case atStart => exact ⟨0, by omega, rfl, own_eq HO.out (by simp [twos]), Oth.refl w⟩
  case round =>
    obtain ⟨k, hk, rfl, hown, hoth⟩ := hrel
    have HW := Lib.hid hown
    have HT := Lib.hid hoth
    clear hown hoth
    rw [← Hn.out] at hk
    rcases Nat.lt_or_ge k n with gk | gk
    · have hd : decide ((k : Int) < (n : Int)) = true := decide_eq_true (by omega)
      have hcell : wr.cell? ⟨g, k, none⟩ = some (.int .i64 ((ys.getD k 0 : Nat) : Int)) := by
        obtain ⟨g', c', cs', fr', e, hg, hc⟩ := HI.out.oth HT.out
        injection e with e1 e2 e3
        injection e1 with e1
        injection e1 with e1
        subst e1
        rw [cell_of_row _ _ _ _ _ _ hg]
        exact hc k (by rw [← Hn.out]; exact gk)
      have hb := HY.out k (by rw [← Hn.out]; exact gk)
      have Hk := Lib.hid (show k < ys.length by rw [← Hn.out]; exact gk)
      obtain ⟨x, hxe⟩ : ∃ x, x = ys.getD k 0 := ⟨_, rfl⟩
      rw [← hxe] at hcell hb
      have Hx := Lib.hid hxe
      clear hxe
      go_wp2_with (at_builtin; refine wpList_appo rfl _ _ rfl w0 _ u0 (.slice (some ⟨wr.heap.size, 0, none⟩) 2 2) _ [x / 256 % 256, x % 256] rfl rfl (HW.out.alloc _) (BArg.two wr _ _ _ _ (by omega) (by omega) (by omega) (by omega) _ _ (by omega)) (HL.out _) ?_; intro v3 w3 hown hoth)
      go_roundw
      case rel => exact put_go Hk.out (by omega) (by rw [← Hx.out]; exact hown) HT.out (Oth.below (bAl (bRef wr) _)) hoth
      case measure => simp [intOf]; omega
    · obtain rfl : k = n := by omega
      go_wp2_with fail
      go_ret
      exact ⟨_, rfl, own_eq HW.out (by rw [Hn.out, List.take_length]), HT.out⟩

end Go.Proofs.Ytbpkjljienadiaa
