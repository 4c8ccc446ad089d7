/- Package sieve: Find, over all flows. -/
import Derived.Test.YtpdfgdjomlogbabSvFind
namespace Go.Proofs.Ytpdfgdjomlogbab
open Go.RowKit Go.Joins

/-- A row of flows. -/
def FArg (W : World) (v : Value) (L : List Fl) : Prop :=
  (L = [] ∧ ∃ a c, v = .slice a 0 c) ∨ (0 < L.length ∧ ∃ g cap, v = .slice (some ⟨g, 0, none⟩) L.length cap ∧ g < W.heap.size ∧ L.length ≤ cap ∧ ∀ k, k < L.length → ∀ j u, (FA (L.getD k default)).toList[j]? = some u → W.cell? ⟨g, k * 21 + j, none⟩ = some u)
theorem FArg.slice {W : World} {v : Value} {L : List Fl} (h : FArg W v L) : ∃ p c, v = .slice p L.length c := by
  rcases h with ⟨rfl, p, c, rfl⟩ | ⟨_, g, c, rfl, _⟩
  · exact ⟨p, c, rfl⟩
  · exact ⟨_, c, rfl⟩
theorem FArg.below {W W' : World} {v : Value} {L : List Fl} (h : FArg W v L) (hb : Below W.heap.size W W') : FArg W' v L := by
  rcases h with h | ⟨h0, g, c, e, hg, hc, hr⟩
  · exact .inl h
  · exact .inr ⟨h0, g, c, e, Nat.lt_of_lt_of_le hg hb.size, hc, fun k hk j u hu => (hb.cell hg).trans (hr k hk j u hu)⟩
/-- The first that fits. -/
def firstI (p : Nat → Bool) (n : Nat) : Int := match search p 0 n with | some k => (k : Int) | none => -1
theorem firstI_some {p : Nat → Bool} {n k : Nat} (hk : k < n) (hp : p k = true) (hb : ∀ i, i < k → p i = false) : firstI p n = (k : Int) := by
  unfold firstI
  rw [search_is n 0 (Nat.zero_le _) (by omega) hp fun i _ hi => hb i hi]
theorem firstI_none {p : Nat → Bool} {n : Nat} (hb : ∀ i, i < n → p i = false) : firstI p n = -1 := by
  unfold firstI
  rw [search_not n 0 fun i _ hi => hb i (by omega)]
def IxRel (w : World) (n : Nat) (p : Nat → Bool) (kv : Value) (wr : World) : Prop := ∃ k : Nat, k ≤ n ∧ kv = .int .i64 (k : Int) ∧ (∀ i, i < k → p i = false) ∧ Below w.heap.size w wr
set_option maxHeartbeats 1000000 in
theorem index_any (L : List Fl) (v : Value) (f : Nat) (cb : Array Value) (p : Nat → Bool) (w : World) (h : FArg w v L) (hl : L.length ≤ 1000) (ef : ∀ args w, (callFunc f args).run Try.prog w = .ok (.enter f args) w)
    (hf : Hid (∀ W, Below w.heap.size w W → ∀ i, i < L.length → Calls Try.prog f (#[.agg (FA (L.getD i default))] ++ cb) W fun e W' => e = .returned (.bool (p i)) ∧ Below W.heap.size W W')) :
    Calls Try.prog 20 #[v, .func (.func f) #[] cb] w fun e w' => e = .returned (.int .i64 (firstI p L.length)) ∧ Below w.heap.size w w' := by
  have HA := Lib.hid h
  obtain ⟨pp, c, rfl⟩ := h.slice
  obtain ⟨n, hn⟩ : ∃ n, L.length = n := ⟨_, rfl⟩
  have HN := Lib.hid hn
  rw [hn] at HA hf hl ⊢
  clear h hn
  go_enter Try.func20, Try.ntmps20
  go_wp2_with fail
  go_loopw [8] (fun kv wr => IxRel w n p kv wr) (fun kv _ => n - (intOf kv).toNat)
  case atStart => exact ⟨0, by omega, rfl, fun i hi => by omega, bRef w⟩
  case round =>
    obtain ⟨k, hk, rfl, hno, hb⟩ := hrel
    have HNo := Lib.hid hno
    have HB := Lib.hid hb
    rcases Nat.lt_or_ge k n with g | g
    · have hd : decide ((k : Int) < (n : Int)) = true := decide_eq_true (by omega)
      have hc := hf.out wr HB.out k g
      rcases HA.out.below hb with ⟨e, _⟩ | ⟨h0, gg, cap, e, hg, hcp, hr⟩
      · rw [e] at HN; have := HN.out; simp at this; omega
      rw [HN.out] at e hcp
      injection e with e1 _ e3
      subst e1 e3
      have HL := Lib.hid (hr k (by rw [HN.out]; exact g))
      cases hp : p k <;> rw [hp] at hc
      · have HP := Lib.hid hp
        have HC := Lib.hid hc
        clear hp hc hno hb hr hg
        go_wp2_with (with_reducible refine at_loadFl ?_; refine wpList_loadFl rfl _ rfl gg (k * 21) rfl (L.getD k default) HL.out ?_)
        refine HC.out.mono ?_
        rintro e w' ⟨rfl, hb⟩
        have HB' := Lib.hid hb
        clear hb
        go_wp2_with fail
        go_roundw
        case rel => exact ⟨k + 1, by omega, by go_num, fun i hi => by
          rcases Nat.lt_or_ge i k with q | q
          · exact HNo.out i q
          · rw [show i = k by omega]; exact HP.out, bTr HB.out HB'.out⟩
        case measure => simp [intOf]; omega
      · have HE := Lib.hid (firstI_some g hp hno)
        have HC := Lib.hid hc
        clear hp hc hno hb hr hg
        go_wp2_with (with_reducible refine at_loadFl ?_; refine wpList_loadFl rfl _ rfl gg (k * 21) rfl (L.getD k default) HL.out ?_)
        refine HC.out.mono ?_
        rintro e w' ⟨rfl, hb⟩
        have HB' := Lib.hid hb
        clear hb
        go_wp2_with fail
        go_ret
        exact ⟨by rw [HE.out]; rfl, bTr HB.out HB'.out⟩
    · obtain rfl : k = n := by omega
      have hd : decide ((k : Int) < (k : Int)) = false := decide_eq_false (by omega)
      have HE := Lib.hid (firstI_none hno)
      clear hno hb
      go_wp2_with fail
      go_ret
      exact ⟨by rw [HE.out]; rfl, HB.out⟩
theorem find1_fn (args : Array Value) (w : World) : (callFunc 21 args).run Try.prog w = .ok (.enter 21 args) w := by go_simp
/-- A sieve's row, with no gates and no meters or with some. -/
def SBox (W : World) (b : Nat) (v gv mv : Value) (oth : Int) : Prop := W.heap[b]? = some (.cells #[v, gv, mv, .int .i64 oth] 55 (0, 0))
theorem SBox.below {W W' : World} {b : Nat} {v gv mv : Value} {oth : Int} (h : SBox W b v gv mv oth) (hb : Below W.heap.size W W') : SBox W' b v gv mv oth := (hb.block _ (lt_of_heap h)).trans h
def findI (L : List Fl) (p v : Int) (d s : M6) : Int := firstI (fun k => decide (Fits (L.getD k default).st p v d s)) L.length
set_option maxHeartbeats 1000000 in
theorem find_any {w : World} {b : Nat} {L : List Fl} {fv' gv mv : Value} {oth : Int} (h : SBox w b fv' gv mv oth) (hr : FArg w fv' L) (hl : L.length ≤ 1000) (p v : Int) (d s : M6) :
    Calls Try.prog 12 #[.pointer (some ⟨b, 0, none⟩), .int .i64 p, .int .i64 v, MV d, MV s] w fun e w' => e = .returned (.int .i64 (findI L p v d s)) ∧ Below w.heap.size w w' := by
  obtain ⟨W0, hW0⟩ : ∃ W0, W0 = ((((w.alloc (.cells #[.int .i64 p] 3)).alloc (.cells #[.int .i64 v] 3)).alloc (.cells (MC d) 26)).alloc (.cells (MC s) 26)) := ⟨_, rfl⟩
  have hB : Below w.heap.size w W0 := by rw [hW0]; exact bAl (bAl (bAl (bAl (bRef w) _) _) _) _
  have hFB : FB W0 w.heap.size p v d s := by
    rw [hW0]
    refine ⟨?_, ?_, ?_, ?_⟩
    · exact (heap_alloc_old _ _ (r := w.heap.size) (by simp <;> omega)).trans ((heap_alloc_old _ _ (r := w.heap.size) (by simp <;> omega)).trans ((heap_alloc_old _ _ (r := w.heap.size) (by simp)).trans (heap_alloc_one w _)))
    · have h2 := heap_alloc_one (w.alloc (.cells #[.int .i64 p] 3)) (.cells #[.int .i64 v] 3)
      rw [show (w.alloc (.cells #[.int .i64 p] 3)).heap.size = w.heap.size + 1 by simp] at h2
      exact (heap_alloc_old _ _ (r := w.heap.size + 1) (by simp <;> omega)).trans ((heap_alloc_old _ _ (r := w.heap.size + 1) (by simp)).trans h2)
    · have h3 := heap_alloc_one ((w.alloc (.cells #[.int .i64 p] 3)).alloc (.cells #[.int .i64 v] 3)) (.cells (MC d) 26)
      rw [show ((w.alloc (.cells #[.int .i64 p] 3)).alloc (.cells #[.int .i64 v] 3)).heap.size = w.heap.size + 1 + 1 by simp] at h3
      exact (heap_alloc_old _ _ (r := w.heap.size + 1 + 1) (by simp)).trans h3
    · have h4 := heap_alloc_one (((w.alloc (.cells #[.int .i64 p] 3)).alloc (.cells #[.int .i64 v] 3)).alloc (.cells (MC d) 26)) (.cells (MC s) 26)
      rw [show (((w.alloc (.cells #[.int .i64 p] 3)).alloc (.cells #[.int .i64 v] 3)).alloc (.cells (MC d) 26)).heap.size = w.heap.size + 1 + 1 + 1 by simp] at h4
      exact h4
  have HS := h.below hB
  have hI := index_any L fv' 21 (cbs w.heap.size) (fun k => decide (Fits (L.getD k default).st p v d s)) W0 (hr.below hB) hl find1_fn (Lib.hid (fun W hb i _ => find1_any (hFB.below hb) _))
  have HI := Lib.hid hI
  have HB := Lib.hid hB
  have c0 := cell_of_row _ _ 0 _ _ _ HS
  obtain ⟨p0, k0, rfl⟩ := hr.slice
  rw [hW0] at c0
  dsimp only [MC] at c0
  have HW := Lib.hid hW0
  clear h hr hB hFB HS hI hW0
  go_enter Try.func12, Try.ntmps12
  go_wp2_with (go_at_call 20; go_loud (rw [← HW.out]; (with_reducible refine (HI.out).mono ?_); rintro e w2 ⟨rfl, hb⟩; have HB2 := Lib.hid (bTr HB.out hb); clear hb))
  go_ret
  exact ⟨rfl, HB2.out⟩

end Go.Proofs.Ytpdfgdjomlogbab
