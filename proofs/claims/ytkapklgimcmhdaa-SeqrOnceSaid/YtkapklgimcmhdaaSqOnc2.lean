/- SeqrOnce in memory: the sequencer, the boxes of its law, its two maps; what the law's own function does. -/
import Derived.Test.YtkapklgimcmhdaaSqOnc1
namespace Go.Proofs.Ytkapklgimcmhdaa
open Go.RowKit Go.Joins Go.Maps Go.MapKept Go.ChangeMaps

def RI1 (v : Value) : Option (DataW Unit × List MemPlace) :=
  match v with
  | .int .i64 a => some (.lit (.int .i64 a), [])
  | _ => none
theorem RI1_inv (v : Value) (c : Int) (ps : List MemPlace) (h : RI1 v = some (.lit (.int .i64 c), ps)) : v = .int .i64 c := by
  unfold RI1 at h
  split at h
  · injection h with h
    injection h with h1 h2
    injection h1 with h1
    injection h1 with _ h1
    rw [h1]
  · cases h
def RB1 (v : Value) : Option (DataW Unit × List MemPlace) :=
  match v with
  | .bool a => some (.lit (.bool a), [])
  | _ => none
theorem RB1_inv (v : Value) (c : Bool) (ps : List MemPlace) (h : RB1 v = some (.lit (.bool c), ps)) : v = .bool c := by
  unfold RB1 at h
  split at h
  · injection h with h
    injection h with h1 h2
    injection h1 with h1
    injection h1 with h1
    rw [h1]
  · cases h
theorem wf64q {x : Int} (h : In64 x) : (Lit.int .i64 x).wf = true := by
  unfold In64 at h
  have e : wrap64 x = x := by unfold wrap64; omega
  rw [← e]
  exact wrap64_wf x
/-- The two kinds of map. -/
def MT : MK Try.prog Int Int where
  t := 47
  k := 3
  e := 3
  K := int_keyed Try.underlying3
  ht := Try.underlying47
  good := In64
  mkK := fun a => .int .i64 a
  kl := fun a => .int .i64 a
  key := fun a h => keyOf_int_mk Try.underlying3 (wf64q h)
  inj := fun a b h => by injection h
  mkV := fun c => .int .i64 c
  R := RI1
  enc := fun c => .lit (.int .i64 c)
  hR := fun _ => rfl
  invR := RI1_inv
  zero := 0
  hz := fun _ => by kernel_rfl
def MC : MK Try.prog Int Bool where
  t := 48
  k := 3
  e := 4
  K := int_keyed Try.underlying3
  ht := Try.underlying48
  good := In64
  mkK := fun a => .int .i64 a
  kl := fun a => .int .i64 a
  key := fun a h => keyOf_int_mk Try.underlying3 (wf64q h)
  inj := fun a b h => by injection h
  mkV := fun c => .bool c
  R := RB1
  enc := fun c => .lit (.bool c)
  hR := fun _ => rfl
  invR := RB1_inv
  zero := false
  hz := fun _ => by kernel_rfl
theorem turned_blk {w w' : World} {b k : Nat} (h : w.mapTurned w' b) (hk : k ≠ b) : w'.heap[k]? = w.heap[k]? := by
  obtain ⟨es, cl, es', cl', hb, rfl⟩ := h
  exact heap_setBlock_other hb _ hk
theorem turned_no {w w' : World} {b k : Nat} {cs : Array Value} {t : TypeId} {fr : Nat × Nat} (h : w.mapTurned w' b) (hk : w.heap[k]? = some (.cells cs t fr)) : k ≠ b := fun e => by
  obtain ⟨es, cl, es', cl', hb, _⟩ := h
  rw [e, hb] at hk
  cases hk
theorem turned_bel {w w' : World} {B b : Nat} (h : w.mapTurned w' b) (hB : B ≤ b) : Below B w w' := by
  have g := h.grown
  exact ⟨g.os, g.tape, g.output, g.size, fun k hk => turned_blk h (by omega)⟩
theorem one_ne {w : World} {k b : Nat} {v : Value} {t : TypeId} {fr : Nat × Nat} {m : SQ} (h : w.heap[k]? = some (.cells #[v] t fr)) (hm : Sq w b m) : k ≠ b := fun e => by
  rw [e, hm] at h
  injection h with h
  injection h with h
  have := congrArg Array.size h
  simp [sqrow] at this

/-- The boxes. -/
structure OB where
  f : Nat
  s : Nat
  b : Nat
  t : Nat
  c : Nat
  tm : Nat
  cm : Nat
structure OW (B : Nat) (W : World) (z : OB) (F : Int) (m : SQ) (n : Nat) (T : List (Int × Int)) (C : List (Int × Bool)) : Prop where
  hf : ∃ t, W.heap[z.f]? = some (.cells #[.int .i64 F] t (0, 0))
  hs : ∃ t, W.heap[z.s]? = some (.cells #[.pointer (some ⟨z.b, 0, none⟩)] t (0, 0))
  ht : ∃ t, W.heap[z.t]? = some (.cells #[.map (some z.tm)] t (0, 0))
  hc : ∃ t, W.heap[z.c]? = some (.cells #[.map (some z.cm)] t (0, 0))
  sq : Sq W z.b m
  mt : MapL MT W z.tm n T
  mc : MapL MC W z.cm n C
  bb : B ≤ z.b
  bt : B ≤ z.tm
  bc : B ≤ z.cm
  ne : z.tm ≠ z.cm
section
variable {B n : Nat} {W W' : World} {z : OB} {F : Int} {m m' : SQ} {T T' : List (Int × Int)} {C C' : List (Int × Bool)}
theorem OW.below (h : OW B W z F m n T C) (hb : Below W.heap.size W W') : OW B W' z F m n T C := by
  obtain ⟨⟨t1, h1⟩, ⟨t2, h2⟩, ⟨t3, h3⟩, ⟨t4, h4⟩, h5, h6, h7, h8, h9, h10, h11⟩ := h
  exact ⟨⟨t1, (hb.block _ (lt_of_heap h1)).trans h1⟩, ⟨t2, (hb.block _ (lt_of_heap h2)).trans h2⟩, ⟨t3, (hb.block _ (lt_of_heap h3)).trans h3⟩, ⟨t4, (hb.block _ (lt_of_heap h4)).trans h4⟩, h5.below hb, h6.heap (hb.block _ h6.lt), h7.heap (hb.block _ h7.lt), h8, h9, h10, h11⟩
theorem map_no {α : Type} {M : MK Try.prog Int α} {k b : Nat} {L : List (Int × α)} (h : MapL M W k n L) (hm : Sq W b m) : k ≠ b := fun e => by
  obtain ⟨D, ⟨es, cl, h1, _⟩, _⟩ := h
  rw [e, hm] at h1
  cases h1
theorem OW.sqr (h : OW B W z F m n T C) (hb : ButB z.b W W') (hm : Sq W' z.b m') : OW B W' z F m' n T C := by
  obtain ⟨⟨t1, h1⟩, ⟨t2, h2⟩, ⟨t3, h3⟩, ⟨t4, h4⟩, h5, h6, h7, h8, h9, h10, h11⟩ := h
  exact ⟨⟨t1, (hb.block _ (lt_of_heap h1) (one_ne h1 h5)).trans h1⟩, ⟨t2, (hb.block _ (lt_of_heap h2) (one_ne h2 h5)).trans h2⟩, ⟨t3, (hb.block _ (lt_of_heap h3) (one_ne h3 h5)).trans h3⟩, ⟨t4, (hb.block _ (lt_of_heap h4) (one_ne h4 h5)).trans h4⟩, hm, h6.heap (hb.block _ h6.lt (map_no h6 h5)), h7.heap (hb.block _ h7.lt (map_no h7 h5)), h8, h9, h10, h11⟩
theorem OW.putC (h : OW B W z F m n T C) (ht : W.mapTurned W' z.cm) {n' : Nat} (hn : n ≤ n') (hm : MapL MC W' z.cm n' C') : OW B W' z F m n' T C' := by
  obtain ⟨⟨t1, h1⟩, ⟨t2, h2⟩, ⟨t3, h3⟩, ⟨t4, h4⟩, h5, h6, h7, h8, h9, h10, h11⟩ := h
  exact ⟨⟨t1, (turned_blk ht (turned_no ht h1)).trans h1⟩, ⟨t2, (turned_blk ht (turned_no ht h2)).trans h2⟩, ⟨t3, (turned_blk ht (turned_no ht h3)).trans h3⟩, ⟨t4, (turned_blk ht (turned_no ht h4)).trans h4⟩, (turned_blk ht (turned_no ht h5)).trans h5, (h6.heap (turned_blk ht h11)).mono hn, hm, h8, h9, h10, h11⟩
theorem OW.putT (h : OW B W z F m n T C) (ht : W.mapTurned W' z.tm) {n' : Nat} (hn : n ≤ n') (hm : MapL MT W' z.tm n' T') : OW B W' z F m n' T' C := by
  obtain ⟨⟨t1, h1⟩, ⟨t2, h2⟩, ⟨t3, h3⟩, ⟨t4, h4⟩, h5, h6, h7, h8, h9, h10, h11⟩ := h
  exact ⟨⟨t1, (turned_blk ht (turned_no ht h1)).trans h1⟩, ⟨t2, (turned_blk ht (turned_no ht h2)).trans h2⟩, ⟨t3, (turned_blk ht (turned_no ht h3)).trans h3⟩, ⟨t4, (turned_blk ht (turned_no ht h4)).trans h4⟩, (turned_blk ht (turned_no ht h5)).trans h5, hm, (h7.heap (turned_blk ht (fun e => h11 e.symm))).mono hn, h8, h9, h10, h11⟩
theorem OW.cells (h : OW B W z F m n T C) : W.cell? ⟨z.f, 0, none⟩ = some (.int .i64 F) ∧ W.cell? ⟨z.s, 0, none⟩ = some (.pointer (some ⟨z.b, 0, none⟩)) ∧ W.cell? ⟨z.t, 0, none⟩ = some (.map (some z.tm)) ∧ W.cell? ⟨z.c, 0, none⟩ = some (.map (some z.cm)) := by
  obtain ⟨⟨t1, h1⟩, ⟨t2, h2⟩, ⟨t3, h3⟩, ⟨t4, h4⟩, _⟩ := h
  exact ⟨cell_of_row _ _ _ _ _ _ h1, cell_of_row _ _ _ _ _ _ h2, cell_of_row _ _ _ _ _ _ h3, cell_of_row _ _ _ _ _ _ h4⟩
abbrev obs (z : OB) : Array Value := #[.pointer (some ⟨z.s, 0, none⟩), .pointer (some ⟨z.f, 0, none⟩), .pointer (some ⟨z.c, 0, none⟩), .pointer (some ⟨z.t, 0, none⟩)]
/-- What the law's own function comes to. -/
def Give (B : Nat) (z : OB) (F x : Int) (m' : SQ) (n : Nat) (T' : List (Int × Int)) (C' : List (Int × Bool)) (W : World) : Ending → World → Prop :=
  fun e W' => e = .returned (.bool true) ∧ OW B W' z F m' (n + 1) T' C' ∧ Below B W W'
set_option maxHeartbeats 2000000 in
theorem give_again (h : OW B W z F m n T C) (x : Int) (h0 : 0 ≤ x) (h1 : x ≤ 1000) (f0 : 0 ≤ F) (f1 : F < 65536) (hn : n ≤ 1000)
    (HIn : ∀ W, Sq W z.b m → Calls Try.prog 16 #[.pointer (some ⟨z.b, 0, none⟩), .int .i64 x, .int .i64 ((F + x) % 65536)] W fun e w' => e = .returned (.tuple #[.int .i64 1, .int .i64 0]) ∧ Sq w' z.b m' ∧ ButB z.b W w') :
    Calls Try.prog 25 (#[.int .i64 x] ++ obs z) W (Give B z F x m' n T (putL C x true) W) := by
  have hx : In64 x := ⟨by omega, by omega⟩
  obtain ⟨c1, c2, c3, c4⟩ := h.cells
  have e1 : wrap64 (F + x) = F + x := by unfold wrap64; omega
  have e2 : wrap64 ((F + x) % 65536) = (F + x) % 65536 := by unfold wrap64; omega
  have e3 : (F + x).tmod 65536 = (F + x) % 65536 := Int.tmod_eq_emod_of_nonneg (by omega)
  obtain ⟨S, hS⟩ : ∃ S, (F + x) % 65536 = S := ⟨_, rfl⟩
  rw [hS] at HIn e2 e3
  have H := Lib.hid h
  have HI := Lib.hid HIn
  have HX := Lib.hid hx
  have HN := Lib.hid hn
  clear h HIn hx hn hS h0 h1 f0 f1 c3 c4
  simp only [obs, Array.append_eq_append, List.append_toArray] at *
  go_enter Try.func25, Try.ntmps25
  go_wp2_with (go_at_call 16; (with_reducible refine (HI.out _ H.out.sq).mono ?_); rintro e w1 ⟨rfl, hm, hb⟩; have H1 := Lib.hid (H.out.sqr hb hm); have HB1 := Lib.hid (hb.below H.out.bb H.out.sq.lt); obtain ⟨c1, c2, c3, c4⟩ := H1.out.cells; obtain ⟨w2, hrun, hmap, hturn⟩ := H1.out.mc.put x HX.out true (by have := HN.out; unfold maxLen; omega); have hrun2 : (Instr.mapUpdate 48 (.map (some z.cm)) (.int .i64 x) (.bool true)).run Try.prog w1 = .ok () w2 := hrun; have H2 := Lib.hid (H1.out.putC hturn (Nat.le_succ n) hmap); have HB2 := Lib.hid (HB1.out.trans (turned_bel hturn H1.out.bc)); clear hm hb hrun hmap hturn)
  go_ret
  exact ⟨rfl, H2.out, HB2.out⟩
set_option maxHeartbeats 4000000 in
theorem give_new (h : OW B W z F m n T C) (x v : Int) (hv : v = 0 ∨ v = 3) (h0 : 0 ≤ x) (h1 : x ≤ 1000) (f0 : 0 ≤ F) (f1 : F < 65536) (hn : n ≤ 1000) (hT : lookL T x = none)
    (HIn : ∀ W, Sq W z.b m → Calls Try.prog 16 #[.pointer (some ⟨z.b, 0, none⟩), .int .i64 x, .int .i64 ((F + x) % 65536)] W fun e w' => e = .returned (.tuple #[.int .i64 v, .int .i64 0]) ∧ Sq w' z.b m' ∧ ButB z.b W w') :
    Calls Try.prog 25 (#[.int .i64 x] ++ obs z) W (Give B z F x m' (n + 1) (putL T x 1) (putL C x true) W) := by
  have hx : In64 x := ⟨by omega, by omega⟩
  obtain ⟨c1, c2, c3, c4⟩ := h.cells
  have e1 : wrap64 (F + x) = F + x := by unfold wrap64; omega
  have e2 : wrap64 ((F + x) % 65536) = (F + x) % 65536 := by unfold wrap64; omega
  have e3 : (F + x).tmod 65536 = (F + x) % 65536 := Int.tmod_eq_emod_of_nonneg (by omega)
  obtain ⟨S, hS⟩ : ∃ S, (F + x) % 65536 = S := ⟨_, rfl⟩
  rw [hS] at HIn e2 e3
  have H := Lib.hid h
  have HI := Lib.hid HIn
  have HX := Lib.hid hx
  have HN := Lib.hid hn
  have HT := Lib.hid hT
  clear h HIn hx hn hS h0 h1 f0 f1 c3 c4 hT
  simp only [obs, Array.append_eq_append, List.append_toArray] at *
  rcases hv with rfl | rfl
  all_goals
    go_enter Try.func25, Try.ntmps25
    go_wp2_with (go_at_call 16; (with_reducible refine (HI.out _ H.out.sq).mono ?_); rintro e w1 ⟨rfl, hm, hb⟩; have H1 := Lib.hid (H.out.sqr hb hm); have HB1 := Lib.hid (hb.below H.out.bb H.out.sq.lt); obtain ⟨c1, c2, c3, c4⟩ := H1.out.cells; obtain ⟨w2, hrun, hmap, hturn⟩ := H1.out.mc.put x HX.out true (by have := HN.out; unfold maxLen; omega); have hrun2 : (Instr.mapUpdate 48 (.map (some z.cm)) (.int .i64 x) (.bool true)).run Try.prog w1 = .ok () w2 := hrun; have H2 := Lib.hid (H1.out.putC hturn (Nat.le_succ n) hmap); have HB2 := Lib.hid (HB1.out.trans (turned_bel hturn H1.out.bc)); obtain ⟨d1, d2, d3, d4⟩ := H2.out.cells; have hl : (Instr.lookup 47 (.map (some z.tm)) (.int .i64 x) false).run Try.prog w2 = .ok (.int .i64 0) w2 := (by have k := H2.out.mt.look x HX.out; rw [HT.out] at k; exact k); obtain ⟨w3, hrunt, hmapt, hturnt⟩ := H2.out.mt.put x HX.out 1 (by have := HN.out; unfold maxLen; omega); have hrun3 : (Instr.mapUpdate 47 (.map (some z.tm)) (.int .i64 x) (.int .i64 1)).run Try.prog w2 = .ok () w3 := hrunt; have H3 := Lib.hid (H2.out.putT hturnt (Nat.le_succ (n + 1)) hmapt); have HB3 := Lib.hid (HB2.out.trans (turned_bel hturnt H2.out.bt)); clear hm hb hrun hmap hturn hrunt hmapt hturnt d1 d2 d4 c1 c2 c3)
    go_ret
    exact ⟨rfl, H3.out, HB3.out⟩
theorem OW.mono (h : OW B W z F m n T C) {n' : Nat} (hn : n ≤ n') : OW B W z F m n' T C := by
  obtain ⟨h1, h2, h3, h4, h5, h6, h7, h8, h9, h10, h11⟩ := h
  exact ⟨h1, h2, h3, h4, h5, h6.mono hn, h7.mono hn, h8, h9, h10, h11⟩
/-- A number that comes on one of the two ways. -/
theorem give_any {k hi : Int} (hm : Mid m F C T k hi) (x : Int) (f0 : 0 ≤ F) (f1 : F < 65536) (h0 : 0 ≤ x) (hxk : x ≤ k) (hkx : k ≤ x + 7) (hk : k ≤ 200) (hhi : hi ≤ k) :
    ∃ m' T', Mid m' F (putL C x true) T' (k + 1) k ∧ ∀ W n, n ≤ 1000 → OW B W z F m n T C → Calls Try.prog 25 #[.int .i64 x, .pointer (some ⟨z.s, 0, none⟩), .pointer (some ⟨z.f, 0, none⟩), .pointer (some ⟨z.c, 0, none⟩), .pointer (some ⟨z.t, 0, none⟩)] W fun e W' => e = .returned (.bool true) ∧ OW B W' z F m' (n + 2) T' (putL C x true) ∧ Below B W W' := by
  obtain ⟨T', hT, hm'⟩ := hm.give f0 f1 h0 hxk hkx hk hhi
  have HI := fun W (hW : Sq W z.b m) => in_ok hW hm.1.g x ((F + x) % 65536) (by omega) (by omega) (by omega) (by omega)
  refine ⟨_, T', hm', fun W n hn h => ?_⟩
  rcases hT with ⟨e, rfl⟩ | ⟨e, hl, rfl⟩
  · rw [e] at HI
    exact (give_again h x h0 (by omega) f0 f1 hn HI).mono fun e W' ⟨h1, h2, h3⟩ => ⟨h1, h2.mono (by omega), h3⟩
  · exact (give_new h x _ e h0 (by omega) f0 f1 hn hl HI).mono fun e W' ⟨h1, h2, h3⟩ => ⟨h1, h2.mono (by omega), h3⟩
theorem OW.came (h : OW B W z F m n T C) (x : Int) (hx : In64 x) : (Instr.lookup 48 (.map (some z.cm)) (.int .i64 x) false).run Try.prog W = .ok (.bool ((lookL C x).getD false)) W := h.mc.look x hx
theorem OW.taken (h : OW B W z F m n T C) (x : Int) (hx : In64 x) : (Instr.lookup 47 (.map (some z.tm)) (.int .i64 x) false).run Try.prog W = .ok (.int .i64 ((lookL T x).getD 0)) W := h.mt.look x hx
end
/-- The boxes at the start. -/
theorem OW.start {B f b : Nat} {w3 : World} {F : Int} {m : SQ} {t t1 t2 t3 : TypeId} (hF : w3.heap[f]? = some (.cells #[.int .i64 F] t (0, 0))) (hm : Sq w3 b m) (hB : B ≤ b) (hB3 : B ≤ w3.heap.size) :
    OW B (((((w3.alloc (.cells #[.pointer (some ⟨b, 0, none⟩)] t1)).alloc (.map #[] 0)).alloc (.cells #[.map (some (w3.heap.size + 1))] t2)).alloc (.map #[] 0)).alloc (.cells #[.map (some (w3.heap.size + 1 + 1 + 1))] t3))
      ⟨f, w3.heap.size, b, w3.heap.size + 1 + 1, w3.heap.size + 1 + 1 + 1 + 1, w3.heap.size + 1, w3.heap.size + 1 + 1 + 1⟩ F m 0 [] [] := by
  have s : ∀ (W : World) o, (W.alloc o).heap.size = W.heap.size + 1 := fun W o => by unfold World.alloc; simp
  have a1 := heap_alloc_one' w3 (.cells #[.pointer (some ⟨b, 0, none⟩)] t1)
  obtain ⟨W1, h1⟩ : ∃ W1, w3.alloc (.cells #[.pointer (some ⟨b, 0, none⟩)] t1) = W1 := ⟨_, rfl⟩
  have s1 := s w3 (.cells #[.pointer (some ⟨b, 0, none⟩)] t1)
  have b1 := bAl (bRef w3) (.cells #[.pointer (some ⟨b, 0, none⟩)] t1)
  rw [h1] at a1 s1 b1 ⊢
  have m2 := mapL_made (M := MT) W1
  obtain ⟨W2, h2⟩ : ∃ W2, W1.alloc (.map #[] 0) = W2 := ⟨_, rfl⟩
  have s2 := s W1 (.map #[] 0)
  have b2 := bAl (bRef W1) (.map #[] 0)
  rw [h2] at m2 s2 b2 ⊢
  have a3 := heap_alloc_one' W2 (.cells #[.map (some (w3.heap.size + 1))] t2)
  obtain ⟨W3, h3⟩ : ∃ W3, W2.alloc (.cells #[.map (some (w3.heap.size + 1))] t2) = W3 := ⟨_, rfl⟩
  have s3 := s W2 (.cells #[.map (some (w3.heap.size + 1))] t2)
  have b3 := bAl (bRef W2) (.cells #[.map (some (w3.heap.size + 1))] t2)
  rw [h3] at a3 s3 b3 ⊢
  have m4 := mapL_made (M := MC) W3
  obtain ⟨W4, h4⟩ : ∃ W4, W3.alloc (.map #[] 0) = W4 := ⟨_, rfl⟩
  have s4 := s W3 (.map #[] 0)
  have b4 := bAl (bRef W3) (.map #[] 0)
  rw [h4] at m4 s4 b4 ⊢
  have a5 := heap_alloc_one' W4 (.cells #[.map (some (w3.heap.size + 1 + 1 + 1))] t3)
  obtain ⟨W5, h5⟩ : ∃ W5, W4.alloc (.cells #[.map (some (w3.heap.size + 1 + 1 + 1))] t3) = W5 := ⟨_, rfl⟩
  have b5 := bAl (bRef W4) (.cells #[.map (some (w3.heap.size + 1 + 1 + 1))] t3)
  rw [h5] at a5 b5 ⊢
  rw [s4, s3, s2, s1] at a5
  rw [s3, s2, s1] at m4
  rw [s2, s1] at a3
  rw [s1] at m2
  have B45 := b5
  have B35 := bTr b4 B45
  have B25 := bTr b3 B35
  have B15 := bTr b2 B25
  have B05 := bTr b1 B15
  exact ⟨⟨t, (B05.block _ (lt_of_heap hF)).trans hF⟩, ⟨t1, (B15.block _ (lt_of_heap a1)).trans a1⟩, ⟨t2, (B35.block _ (lt_of_heap a3)).trans a3⟩, ⟨t3, a5⟩, hm.below B05, m2.heap (B25.block _ m2.lt), m4.heap (B45.block _ m4.lt), hB, by show B ≤ w3.heap.size + 1; omega, by show B ≤ w3.heap.size + 1 + 1 + 1; omega, by show w3.heap.size + 1 ≠ w3.heap.size + 1 + 1 + 1; omega⟩
end Go.Proofs.Ytkapklgimcmhdaa
