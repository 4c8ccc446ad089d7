/- The reference's State and Stay. -/
import Derived.Test.YtpdfgdjomlogbaaGtRef3
namespace Go.Proofs.Ytpdfgdjomlogbaa
open Go.RowKit Go.Joins

theorem three_cells (w : World) (x y z : Value) (t : TypeId) : (w.alloc (.cells #[x, y, z] t)).cell? ⟨w.heap.size, 0, none⟩ = some x ∧ (w.alloc (.cells #[x, y, z] t)).cell? ⟨w.heap.size, 1, none⟩ = some y ∧ (w.alloc (.cells #[x, y, z] t)).cell? ⟨w.heap.size, 2, none⟩ = some z :=
  ⟨cell_of_row _ _ _ _ _ _ (heap_alloc_one w _), cell_of_row _ _ _ _ _ _ (heap_alloc_one w _), cell_of_row _ _ _ _ _ _ (heap_alloc_one w _)⟩
def RStRel (w : World) (g c : Int) (ts : List (Int × Int)) (vp : Value) (kv : Value) (wr : World) : Prop :=
  ∃ k : Nat, k ≤ slotI ts g ∧ kv = .int .i64 (k : Int) ∧ PcArg wr vp c ts ∧ Below w.heap.size w wr
set_option maxHeartbeats 1000000 in
theorem rstate_some (b c : Int) (bk o cap : Nat) (ts : List (Int × Int)) (x : Int) (w : World) (hr : RdT w bk o ts) (hg : Good b c ts) (hx : inT x) :
    Calls Try.prog 16 #[LV b c (.slice (some ⟨bk, o, none⟩) ts.length cap), .int .i64 x] w fun e w' => e = .returned (.int .i64 (st ts (gone b c x))) ∧ Below w.heap.size w w' := by
  obtain ⟨n, hn⟩ : ∃ n, n = ts.length := ⟨_, rfl⟩
  have HP := Lib.hid (fun w (h : RdT w bk o ts) => pieces_some b c bk o cap ts w h hg)
  rw [← hn] at HP ⊢
  have h0 := hg.pos
  have h64 := hg.len
  rw [← hn] at h0 h64
  have HG := Lib.hid (phase_any b c (.slice (some ⟨bk, o, none⟩) n cap) x hg.b0 hg.b1 ⟨hg.c0, hg.c1⟩ hx)
  have HGB := Lib.hid (gone_bd (b := b) x hg.c0)
  have HGood := Lib.hid hg
  have HL0 := Lib.hid (RB.new w b c (.slice (some ⟨bk, o, none⟩) n cap))
  have HR0 := Lib.hid (hr.below (bAl (bRef w) (.cells #[.int .i64 b, .int .i64 c, .slice (some ⟨bk, o, none⟩) n cap] 30)))
  obtain ⟨l0, l1, l2⟩ := HL0.out.cells
  have Hn := Lib.hid hn
  generalize gone b c x = g at *
  clear hn hr hg hx h0
  go_enter Try.func16, Try.ntmps16
  go_wp2_with (first
    | (go_at_call 32; (with_reducible refine (HG.out.go _).mono ?_); rintro e w1 ⟨rfl, hb⟩; have HL1 := Lib.hid (HL0.out.below hb); have HR1 := Lib.hid (HR0.out.below hb); have HB1 := Lib.hid (bTr (bAl (bRef w) (.cells #[.int .i64 b, .int .i64 c, .slice (some ⟨bk, o, none⟩) n cap] 30)) hb); obtain ⟨m0, m1, m2⟩ := HL1.out.cells; clear hb)
    | (go_at_call 33; (with_reducible refine (HP.out _ HR1.out).mono ?_); rintro e w2 ⟨vp, rfl, hpc, hb⟩; have HPC := Lib.hid hpc; have HB2 := Lib.hid (bTr HB1.out hb); obtain ⟨gb, gc, hvp, -, hgc, -⟩ := hpc; rw [← Hn.out] at hvp hgc; subst hvp; clear hb))
  go_loopw [14] (fun kv wr => RStRel w g c ts (.slice (some ⟨gb, 0, none⟩) n gc) kv wr) (fun kv _ => n - (intOf kv).toNat)
  case atStart => exact ⟨0, by omega, rfl, HPC.out, HB2.out⟩
  case round =>
    clear HL0 HL1 HR0 HR1 HB1 l0 l1 l2 m0 m1 m2
    obtain ⟨k, hk, rfl, hpc, hb⟩ := hrel
    have hgb := HGB.out
    have hsl := HGood.out.slot_lt g
    have hss := HGood.out.slot_start hgb.1
    have hse := HGood.out.slot_end hgb.2
    rw [← Hn.out] at hsl
    have hkl : k < ts.length := by rw [← Hn.out]; omega
    have hkn : k < n := by omega
    have hd : decide ((k : Int) < (n : Int)) = true := decide_eq_true (by omega)
    have hpk : pre ts k ≤ g := Int.le_trans (HGood.out.preLe hk (by rw [← Hn.out]; omega)) hss
    have hpe : k < slotI ts g → endOf c ts k ≤ g := fun h => by
      have h1 := HGood.out.preLe (i := k + 1) (k := slotI ts g) (by omega) (by rw [← Hn.out]; omega)
      unfold endOf
      rw [if_pos (by rw [← Hn.out]; omega)]; omega
    have hst : k = slotI ts g → st ts g = tA ts k := fun h => by unfold st; rw [← h]
    have hse' : k = slotI ts g → g < endOf c ts k := fun h => by rw [h]; exact hse
    obtain ⟨gg, ccp, he, hlt, hcp, hcl⟩ := hpc
    injection he with he1 he2 he3
    injection he1 with he1
    injection he1 with he1 _ _
    subst he1
    obtain ⟨c1, c2, c3⟩ := hcl k hkl
    have HPC1 := Lib.hid (show PcArg wr (.slice (some ⟨gb, 0, none⟩) n gc) c ts from ⟨gb, ccp, by rw [Hn.out, he3], hlt, hcp, hcl⟩)
    have HB := Lib.hid hb
    have three := three_cells wr (.int .i64 (pre ts k)) (.int .i64 (endOf c ts k)) (.int .i64 (tA ts k)) 66
    have e1 : decide (pre ts k ≤ g) = true := decide_eq_true hpk
    rcases Nat.lt_or_ge k (slotI ts g) with q | q
    · have e2 : decide (g < endOf c ts k) = false := decide_eq_false (by have := hpe q; omega)
      have HQ := Lib.hid q
      generalize pre ts k = p at *
      generalize endOf c ts k = z at *
      generalize tA ts k = a at *
      clear hb hcl he2 he3 hcp hlt hgb hsl hss hse hkl hpk hpe hst hse' q
      go_wp2_with fail
      go_roundw
      case rel => exact ⟨k + 1, HQ.out, by go_num, HPC1.out.below (bAl (bRef wr) _), bAl HB.out _⟩
      case measure => have h1 := HQ.out; have h2 := HGood.out.slot_lt g; rw [← Hn.out] at h2; simp [intOf]; omega
    · have hkk : k = slotI ts g := by omega
      have e2 : decide (g < endOf c ts k) = true := decide_eq_true (hse' hkk)
      have HE := Lib.hid (hst hkk)
      generalize pre ts k = p at *
      generalize endOf c ts k = z at *
      generalize tA ts k = a at *
      clear hb hcl he2 he3 hcp hlt hgb hsl hss hse hkl hpk hpe hst hse' q hkk
      go_wp2_with fail
      go_ret
      exact ⟨by rw [HE.out]; rfl, bAl HB.out _⟩

/-- For how long, in the reference's words. -/
def rstayV (c : Int) (ts : List (Int × Int)) (g : Int) (gate : Nat) (bit : Int) : Int :=
  match search (isB ts gate bit) (slotI ts g) ts.length with
  | some j => max (up c ts j - g) 0
  | none => 2 * c
section
variable {b c : Int} {ts : List (Int × Int)} {g : Int} {G : Nat} {bit : Int}
theorem isB_turn (j : Nat) : isB ts G bit (j + ts.length) = isB ts G bit j := by unfold isB; rw [Nat.add_mod_right]
theorem Good.found (h : Good b c ts) (h0 : 0 ≤ g) {j : Nat} (hj : slotI ts g ≤ j) (hB : isB ts G bit j = true) (hno : ∀ i, slotI ts g ≤ i → i < j → isB ts G bit i = false) :
    rstayV c ts g G bit = max (up c ts j - g) 0 ∧ up c ts j - g ≤ c := by
  have hp := h.pos
  have hlt : j < slotI ts g + ts.length := by
    rcases Nat.lt_or_ge j (slotI ts g + ts.length) with q | q
    · exact q
    · have h1 := hno (j - ts.length) (by omega) (by omega)
      have h2 := isB_turn (ts := ts) (G := G) (bit := bit) (j - ts.length)
      rw [show j - ts.length + ts.length = j by omega, hB, h1] at h2
      cases h2
  refine ⟨?_, ?_⟩
  · unfold rstayV
    rw [search_is ts.length (slotI ts g) hj hlt hB hno]
  · have h1 := h.up_le (i := j) (k := slotI ts g + ts.length) (by omega)
    rw [h.up_turn, up_slot (h.slot_lt g)] at h1
    have := h.slot_start h0
    omega
theorem Good.missed (h : Good b c ts) (hno : ∀ i, slotI ts g ≤ i → i < 4 * ts.length → isB ts G bit i = false) : rstayV c ts g G bit = 2 * c := by
  have hs := h.slot_lt g
  unfold rstayV
  rw [search_not ts.length (slotI ts g) fun i a b => hno i a (by omega)]
theorem Good.stay_two (h : Good b c ts) (h0 : 0 ≤ g) : (stayV c ts g G bit = 2147483648 ∧ rstayV c ts g G bit = 2 * c) ∨ (stayV c ts g G bit = rstayV c ts g G bit ∧ rstayV c ts g G bit ≤ c) := by
  unfold stayV rstayV
  cases hf : search (isB ts G bit) (slotI ts g) ts.length with
  | none => exact .inl ⟨rfl, rfl⟩
  | some j =>
    obtain ⟨j1, j2, j3, j4⟩ := search_some _ _ hf
    have hk := h.found h0 j1 j3 j4
    have hc := h.c0
    refine .inr ⟨rfl, ?_⟩
    show max (up c ts j - g) 0 ≤ c
    omega
theorem up_at {t k : Nat} (hk : k < ts.length) : up c ts (t * ts.length + k) = (t : Int) * c + pre ts k := by
  unfold up
  rw [Nat.add_comm, Nat.add_mul_mod_self_right, Nat.mod_eq_of_lt hk, Nat.add_mul_div_right _ _ (by omega), Nat.div_eq_of_lt hk, Nat.zero_add]
theorem Good.up_to (h : Good b c ts) {t k : Nat} (hk : k < ts.length) : up c ts (t * ts.length + k + 1) = (t : Int) * c + endOf c ts k := by
  rw [h.up_step, up_at hk, Nat.add_comm (t * ts.length) k, Nat.add_mul_mod_self_right, Nat.mod_eq_of_lt hk]
  unfold longI endOf
  split
  · rw [pre_succ]; omega
  · omega
theorem isB_at {t k : Nat} (hk : k < ts.length) : isB ts G bit (t * ts.length + k) = !decide (bitA ts G k = bit) := by
  unfold isB
  rw [Nat.add_comm, Nat.add_mul_mod_self_right, Nat.mod_eq_of_lt hk]
end

end Go.Proofs.Ytpdfgdjomlogbaa
