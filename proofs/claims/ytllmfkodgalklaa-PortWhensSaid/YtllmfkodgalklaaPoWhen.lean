/- Package port: When. -/
import Derived.Test.YtllmfkodgalklaaPoWhA
namespace Go.Proofs.Ytllmfkodgalklaa
open Go.RowKit Go.Joins

/-- The earlier one of two times, if the first is one. -/
def noteV (a : Int × Bool) (z : Int) : Int × Bool := if a.2 = false ∨ z < a.1 then (z, true) else a
structure NB (W : World) (f g : Nat) (a : Int × Bool) : Prop where
  h1 : W.heap[f]? = some (.cells #[.int .i64 a.1] 3 (0, 0))
  h2 : W.heap[g]? = some (.cells #[.bool a.2] 4 (0, 0))
theorem NB.below {W W' : World} {f g : Nat} {a : Int × Bool} (h : NB W f g a) (hb : Below W.heap.size W W') : NB W' f g a := ⟨(hb.block _ (lt_of_heap h.h1)).trans h.h1, (hb.block _ (lt_of_heap h.h2)).trans h.h2⟩
def Two (f g : Nat) : Nat → Prop := fun j => j = f ∨ j = g
set_option maxHeartbeats 1000000 in
theorem note_any {W : World} {f g : Nat} {a : Int × Bool} (h : NB W f g a) (hne : f ≠ g) (z : Int) : Calls Try.prog 37 #[.int .i64 z, .pointer (some ⟨g, 0, none⟩), .pointer (some ⟨f, 0, none⟩)] W fun e w' => e = .returned (.tuple #[]) ∧ NB w' f g (noteV a z) ∧ ButP (Two f g) W w' := by
  have HN := Lib.hid h
  have c1 := cell_of_row _ _ 0 _ _ _ h.h1
  have c2 := cell_of_row _ _ 0 _ _ _ h.h2
  have f1 := frozen_of_row W f 0 _ _ h.h1
  have f2 := frozen_of_row W g 0 _ _ h.h2
  have hne2 : g ≠ f := Ne.symm hne
  have c3 : (W.setCell ⟨f, 0, none⟩ (.int .i64 z)).cell? ⟨g, 0, none⟩ = some (.bool a.2) := (World.cell?_of_block (heap_setCell_other W ⟨f, 0, none⟩ g _ hne2)).trans c2
  have f3 : (W.setCell ⟨f, 0, none⟩ (.int .i64 z)).frozen? ⟨g, 0, none⟩ = false := frozen_of_row _ g 0 _ _ ((heap_setCell_other W ⟨f, 0, none⟩ g _ hne2).trans h.h2)
  have HB : Hid (ButP (Two f g) W ((W.setCell ⟨f, 0, none⟩ (.int .i64 z)).setCell ⟨g, 0, none⟩ (.bool true))) := Lib.hid ⟨rfl, rfl, rfl, by simp, fun j _ hn => by
    rw [heap_setCell_other _ _ _ _ (fun e => hn (.inr e)), heap_setCell_other _ _ _ _ (fun e => hn (.inl e))]⟩
  have HS : Hid (NB ((W.setCell ⟨f, 0, none⟩ (.int .i64 z)).setCell ⟨g, 0, none⟩ (.bool true)) f g (z, true)) := Lib.hid
    ⟨(heap_setCell_other _ ⟨g, 0, none⟩ f _ hne).trans (heap_setCell_same W f 0 _ _ _ h.h1), heap_setCell_same _ g 0 _ _ _ ((heap_setCell_other W ⟨f, 0, none⟩ g _ hne2).trans h.h2)⟩
  obtain ⟨a1, a2⟩ := a
  dsimp only at c1 c2 c3
  cases a2 with
  | false =>
    rw [show noteV (a1, false) z = (z, true) from if_pos (.inl rfl)]
    clear h
    go_enter Try.func37, Try.ntmps37
    go_wp2_with fail
    go_end0
    exact ⟨rfl, HS.out, HB.out⟩
  | true =>
    by_cases hz : z < a1
    · have d1 : decide (z < a1) = true := decide_eq_true hz
      rw [show noteV (a1, true) z = (z, true) from if_pos (.inr hz)]
      clear h hz
      go_enter Try.func37, Try.ntmps37
      go_wp2_with fail
      go_end0
      exact ⟨rfl, HS.out, HB.out⟩
    · have d1 : decide (z < a1) = false := decide_eq_false hz
      rw [show noteV (a1, true) z = (a1, true) from if_neg (fun e => by rcases e with e | e; cases e; exact hz e)]
      clear h hz
      go_enter Try.func37, Try.ntmps37
      go_wp2_with fail
      go_end0
      exact ⟨rfl, HN.out, ButP.refl _ _⟩
/-- Of some classes the earliest time at which a gate opens. -/
def whenL (b c : Int) (ts : List (Int × Int)) (x : Int) : List Int → Int × Bool → Int × Bool
  | [], a => a
  | y :: ys, a => whenL b c ts x ys (if (opensV b c ts x y).2 = true then noteV a (opensV b c ts x y).1 else a)
def whenV (p : PL) (s : LS) (x : Int) : Int × Bool :=
  if (clsN s 8).any (fun y => fitB s (leftOf p x) y.toNat) = true then (x, true)
  else if (p.turn x).wt = true then noteV (whenL (p.turn x).b1 (p.turn x).c1 (p.turn x).t1 x (clsN s 8) (0, false)) (p.turn x).fr
  else whenL (p.turn x).b1 (p.turn x).c1 (p.turn x).t1 x (clsN s 8) (0, false)
theorem whenL_drop {b c x : Int} {ts : List (Int × Int)} {xs : List Int} {i : Nat} (hi : i < xs.length) (a : Int × Bool) : whenL b c ts x (xs.drop i) a = whenL b c ts x (xs.drop (i + 1)) (if (opensV b c ts x (xs.getD i 0)).2 = true then noteV a (opensV b c ts x (xs.getD i 0)).1 else a) := by
  rw [List.drop_eq_getElem_cons hi, List.getD_eq_getElem?_getD, List.getElem?_eq_getElem hi]
  rfl
section
variable {w0 W : World} {k L : Nat} {F : Nat → Prop} {p : PL} {s : LS}
theorem pwhen_nil (x : Int) (W : World) : Calls Try.prog 12 #[.pointer none, .int .i64 x] W fun e w' => e = .returned (.tuple #[.int .i64 0, .bool false]) ∧ Below W.heap.size W w' := by
  have HB0 := Lib.hid (bAl (bRef W) (.cells #[.pointer none] 27))
  have HC := Lib.hid (fun W => pclasses_nil W)
  go_enter Try.func12, Try.ntmps12
  go_wp2_with (go_at_call 33; (with_reducible refine (HC.out _).mono ?_); rintro e w1 ⟨rfl, rfl⟩)
  go_ret2
  exact ⟨rfl, HB0.out⟩
theorem pwhen_none (h : PoL w0 W k L F p s) (hn : clsN s 8 = []) (x : Int) : Calls Try.prog 12 #[.pointer (some ⟨k, 0, none⟩), .int .i64 x] W fun e w' => e = .returned (.tuple #[.int .i64 0, .bool false]) ∧ Below W.heap.size W w' := by
  have HB0 := Lib.hid (bAl (bRef W) (.cells #[.pointer (some ⟨k, 0, none⟩)] 27))
  have HC := Lib.hid (pclasses (h.below HB0.out))
  rw [hn] at HC
  clear h hn
  go_enter Try.func12, Try.ntmps12
  go_wp2_with (go_at_call 33; (with_reducible refine (HC.out).mono ?_); rintro e w1 ⟨v, rfl, hla, -, hb⟩; obtain ⟨vp, vc, rfl⟩ := hla.slice; have HB1 := Lib.hid (bTr HB0.out hb); clear hla hb)
  go_ret2
  exact ⟨rfl, HB1.out⟩
/-- When's boxes, and what it reads, at the world behind left. -/
structure WhS (w0 W0 : World) (k L : Nat) (F : Nat → Prop) (p : PL) (s : LS) (x : Int) (bp bl : Nat) (q : Option Addr) (cp : Nat) (v : Value) (W : World) : Prop where
  pl : PLeft w0 W0 k L F (p.turn x) s W
  hp : W.heap[bp]? = some (.cells #[.pointer (some ⟨k, 0, none⟩)] 27 (0, 0))
  hl : LB W bl (p.turn x).b1 (p.turn x).c1 (.slice q (p.turn x).t1.length cp)
  ta : TArg W (.slice q (p.turn x).t1.length cp) (p.turn x).t1
  la : LA W v (clsN s 8)
theorem WhS.below {w0 W0 W W' : World} {k L : Nat} {F : Nat → Prop} {p : PL} {s : LS} {x : Int} {bp bl : Nat} {q : Option Addr} {cp : Nat} {v : Value} (h : WhS w0 W0 k L F p s x bp bl q cp v W) (hb : Below W.heap.size W W') : WhS w0 W0 k L F p s x bp bl q cp v W' :=
  ⟨h.pl.below hb, (hb.block _ (lt_of_heap h.hp)).trans h.hp, h.hl.below hb, h.ta.below hb, h.la.below hb⟩
theorem whs_contains {w0 W0 : World} {x : Int} {bp bl b8 : Nat} {q : Option Addr} {cp : Nat} {v : Value} {l : Nat → Int} (h : WhS w0 W0 k L F p s x bp bl q cp v W) (h8 : W.heap[b8]? = some (o8 l)) : Calls Try.prog 34 #[v, wcap bp b8] W fun e w' => e = .returned (.bool ((clsN s 8).any (fun y => fitB s l y.toNat))) ∧ Below W.heap.size W w' := by
  obtain ⟨F1, hp, _⟩ := h.pl
  refine containsf_any h.la (clsN_len s 8) bp b8 _ fun W' hb y hy => ?_
  obtain ⟨c, hc, rfl, hq⟩ := (clsN_mem s y 8).1 hy
  exact when1_any (hp.below hb) ⟨(hb.block _ (lt_of_heap h.hp)).trans h.hp, (hb.block _ (lt_of_heap h8)).trans h8⟩ hc hq
def WlRel (W6 : World) (n : Nat) (b c : Int) (ts : List (Int × Int)) (x : Int) (xs : List Int) (iv : Value) (wr : World) : Prop :=
  ∃ (i : Nat) (a : Int × Bool), i ≤ n ∧ iv = .int .i64 (i : Int) ∧ whenL b c ts x xs (0, false) = whenL b c ts x (xs.drop i) a ∧ NB wr W6.heap.size (W6.heap.size + 1) a ∧ Below W6.heap.size W6 wr
theorem NB.new (W : World) : NB ((W.alloc (.cells #[.int .i64 0] 3)).alloc (.cells #[.bool false] 4)) W.heap.size (W.heap.size + 1) (0, false) :=
  ⟨(heap_alloc_old _ _ (r := W.heap.size) (by simp)).trans (heap_alloc_one W _), heap_alloc_two' W _ _⟩
set_option maxHeartbeats 4000000 in
theorem pwhen_some (h : PoL w0 W k L F p s) (hn : clsN s 8 ≠ []) (x : Int) (hx : inNow x) : Calls Try.prog 12 #[.pointer (some ⟨k, 0, none⟩), .int .i64 x] W fun e w' => e = .returned (.tuple #[.int .i64 (whenV p s x).1, .bool (whenV p s x).2]) ∧ PLeft w0 W k L F (p.turn x) s w' := by
  have HB0 := Lib.hid (bAl (bRef W) (.cells #[.pointer (some ⟨k, 0, none⟩)] 27))
  have HP0 := Lib.hid (h.below HB0.out)
  have HC := Lib.hid (pclasses HP0.out)
  have HT := Lib.hid (fun W => isTime_any x W)
  rw [decide_eq_true hx] at HT
  have HX := Lib.hid hx
  have h1 := heap_alloc_one W (.cells #[.pointer (some ⟨k, 0, none⟩)] 27)
  have H1 := Lib.hid h1
  have hlen0 : 0 < (clsN s 8).length := List.length_pos_iff.2 hn
  have HLN := Lib.hid (clsN_len s 8)
  have HKW := Lib.hid h.klt
  have HFW : Hid (∀ j, F j → j < W.heap.size) := Lib.hid (by obtain ⟨sl, hl⟩ := h.ln.ln; exact hl.top)
  obtain ⟨n, hnn⟩ : ∃ n, n = (clsN s 8).length := ⟨_, rfl⟩
  have HN := Lib.hid hnn
  have d0 : ((n : Int) == 0) = false := by rw [beq_eq_false_iff_ne]; omega
  have d0n : (n == 0) = false := by rw [beq_eq_false_iff_ne]; omega
  obtain ⟨l, hl⟩ : ∃ l, l = leftOf p x := ⟨_, rfl⟩
  have HLD := Lib.hid hl
  obtain ⟨bv, hbv⟩ : ∃ bv, (clsN s 8).any (fun y => fitB s (leftOf p x) y.toNat) = bv := ⟨_, rfl⟩
  have HBV := Lib.hid hbv
  have HLF : Hid (∀ (V : World) (q : Option Addr) (cp : Nat), PLeft w0 W k L F (p.turn x) s V → TArg V (.slice q (p.turn x).t1.length cp) (p.turn x).t1 → Calls Try.prog 31 #[.pointer (some ⟨k, 0, none⟩), LV (p.turn x).b1 (p.turn x).c1 (.slice q (p.turn x).t1.length cp), .int .i64 x] V fun e w' => e = .returned (.agg #[.int .i64 (l 0), .int .i64 (l 1), .int .i64 (l 2), .int .i64 (l 3), .int .i64 (l 4), .int .i64 (l 5), .int .i64 (l 6), .int .i64 (l 7)]) ∧ Below V.heap.size V w') := Lib.hid (fun V q cp hv ht => (pleftX hv q cp ht HX.out).mono fun e w' ⟨h1, h2, _⟩ => ⟨by rw [h1, ← HLD.out]; rfl, h2⟩)
  clear h hn hx h1 hnn hlen0 hl hbv
  go_enter Try.func12, Try.ntmps12
  go_upto_region 6 with (first
    | (go_at_call 33; (with_reducible refine (HC.out).mono ?_); rintro e w1 ⟨v, rfl, hla, hlow, hb⟩; obtain ⟨vp, vc, rfl⟩ := hla.slice; rw [← HN.out] at hla hlow ⊢; have HLA := Lib.hid hla; have HLW := Lib.hid hlow; have HB1 := Lib.hid (bTr HB0.out hb); have HP1 := Lib.hid (HP0.out.below hb); have K1 := Lib.hid ((hb.block _ (lt_of_heap H1.out)).trans H1.out); have k1 := cell_of_row _ _ 0 _ _ _ K1.out; clear hla hb hlow)
    | (go_at_call 30; (with_reducible refine (HT.out _).mono ?_); rintro e w2 ⟨rfl, rfl⟩)
    | (go_at_call 32; (with_reducible refine (pat HP1.out x).mono ?_); rintro e w3 ⟨q, cp, rfl, hta, hpl⟩; have HTA := Lib.hid hta; have HP3 := Lib.hid (PLeft.from HB1.out hpl); have K3 := Lib.hid (hpl.kept K1.out (by have := HKW.out; omega) (fun e => by have := HFW.out _ e; omega)); have k3 := cell_of_row _ _ 0 _ _ _ (((bAl (bRef w3) (.cells #[.int .i64 (p.turn x).b1, .int .i64 (p.turn x).c1, .slice q (p.turn x).t1.length cp] 24)).block _ (lt_of_heap K3.out)).trans K3.out); have HLA3 := Lib.hid (HLA.out.own (w' := w3) (fun j hj e => by have h5 := HLW.out j e; simp only [World.alloc, Array.size_push] at h5; obtain ⟨_, _, _, hbp⟩ := hpl; exact hbp.block j hj (fun e2 => by have := HKW.out; rcases e2 with e2 | e2; omega; have := HFW.out _ e2; omega))); have HL3 := Lib.hid (LB.new w3 (p.turn x).b1 (p.turn x).c1 (.slice q (p.turn x).t1.length cp)); clear hta hpl)
    | (go_at_call 31; (with_reducible refine (HLF.out _ q cp (HP3.out.below (bAl (bRef w3) _)) (HTA.out.below (bAl (bRef w3) _))).mono ?_); rintro e w4 ⟨rfl, hb⟩; have HB4 := Lib.hid (bTr (bAl (bRef w3) (BO (p.turn x).b1 (p.turn x).c1 (.slice q (p.turn x).t1.length cp))) hb); have HL4 := Lib.hid (HL3.out.below hb); have K4 := Lib.hid ((HB4.out.block _ (lt_of_heap K3.out)).trans K3.out); clear hb))
  have hb5 : Below w3.heap.size w3 (w4.alloc (o8 l)) := bAl HB4.out _
  have hs5 : WhS w0 W k L F p s x W.heap.size w3.heap.size q cp (.slice vp n vc) (w4.alloc (o8 l)) :=
    ⟨HP3.out.below hb5, (hb5.block _ (lt_of_heap K3.out)).trans K3.out, HL4.out.below (bAl (bRef w4) _), HTA.out.below hb5, HLA3.out.below hb5⟩
  have h8 := heap_alloc_one w4 (o8 l)
  have HCN := Lib.hid (whs_contains hs5 h8)
  rw [HLD.out, HBV.out, ← HLD.out] at HCN
  have HS5 := Lib.hid hs5
  unfold o8 at HCN HS5
  generalize (w4.alloc (.cells #[.int .i64 (l 0), .int .i64 (l 1), .int .i64 (l 2), .int .i64 (l 3), .int .i64 (l 4), .int .i64 (l 5), .int .i64 (l 6), .int .i64 (l 7)] 31)) = w5 at *
  generalize w4.heap.size = b8 at *
  generalize w3.heap.size = b3 at *
  clear hb5 hs5 h8 k1 k3 HB4 HL4 K4 K3 HLA3 HL3 HTA HP3 HLA HLW HB1 HP1 K1 HLF HC
  cases bv with
  | true =>
    go_wp2_with (go_at_call 34; (with_reducible refine (HCN.out).mono ?_); rintro e w6 ⟨rfl, hb⟩; have HP6 := Lib.hid (HS5.out.pl.below hb); clear hb)
    go_ret2
    have ev : whenV p s x = (x, true) := if_pos HBV.out
    rw [ev]
    exact ⟨rfl, HP6.out⟩
  | false =>
    have ev : whenV p s x = if (p.turn x).wt = true then noteV (whenL (p.turn x).b1 (p.turn x).c1 (p.turn x).t1 x (clsN s 8) (0, false)) (p.turn x).fr else whenL (p.turn x).b1 (p.turn x).c1 (p.turn x).t1 x (clsN s 8) (0, false) := if_neg (by rw [HBV.out]; decide)
    have HEV := Lib.hid ev
    clear ev
    go_wp2_with (go_at_call 34; (with_reducible refine (HCN.out).mono ?_); rintro e w6 ⟨rfl, hb⟩; have HS6 := Lib.hid (HS5.out.below hb); have HNB := Lib.hid (NB.new w6); have HB6 := Lib.hid (bAl (bAl (bRef w6) (.cells #[.int .i64 0] 3)) (.cells #[.bool false] 4)); clear hb)
    go_loopw [42] (fun iv wr => WlRel w6 n (p.turn x).b1 (p.turn x).c1 (p.turn x).t1 x (clsN s 8) iv wr) (fun iv _ => n - (intOf iv).toNat)
    case atStart => exact ⟨0, (0, false), by omega, rfl, rfl, HNB.out, HB6.out⟩
    case round =>
      obtain ⟨i, a, hi, rfl, ha, hnb, hb⟩ := hrel
      have HA := Lib.hid ha
      have HNBi := Lib.hid hnb
      have HBi := Lib.hid hb
      have hs := HS6.out.below hb
      have HSi := Lib.hid hs
      have h8 : n ≤ 8 := by rw [HN.out]; exact HLN.out
      have HNE : Hid (w6.heap.size ≠ w6.heap.size + 1) := Lib.hid (by omega)
      have kb := cell_of_row _ _ 0 _ _ _ hs.hp
      obtain ⟨l0, l1, l2⟩ := hs.hl.cells
      clear ha hnb hb
      rcases Nat.lt_or_ge i n with g | g
      · have dd : decide ((i : Int) < (n : Int)) = true := decide_eq_true (by omega)
        have i1 : (0 : Int) ≤ (i : Int) := by omega
        have hxs : i < (clsN s 8).length := by rw [← HN.out]; exact g
        have hla := hs.la
        rcases hla with ⟨e, _⟩ | ⟨_, b, o, c, e, ⟨cur, fr, hg⟩, hcell⟩
        · rw [e] at hxs; simp at hxs
        injection e with e1 e2 e3
        subst e1 e3
        have q2 := hcell i hxs
        have HO := Lib.hid (fun W (k : TArg W (.slice q (p.turn x).t1.length cp) (p.turn x).t1) => opens_any (p.turn x).b1 (p.turn x).c1 _ _ k x HX.out ((clsN s 8).getD i 0))
        have HD := Lib.hid (whenL_drop (b := (p.turn x).b1) (c := (p.turn x).c1) (x := x) (ts := (p.turn x).t1) hxs a)
        generalize (clsN s 8).getD i 0 = y at *
        generalize (opensV (p.turn x).b1 (p.turn x).c1 (p.turn x).t1 x y) = ov at *
        obtain ⟨o1, o2⟩ := ov
        dsimp only at HO HD
        clear hcell hg e2 hs
        cases o2 with
        | true =>
          have HD2 := Lib.hid (HA.out.trans HD.out)
          rw [if_pos rfl] at HD2
          go_wp2_with (first
            | (go_at_call 38; (with_reducible refine (HO.out _ HSi.out.ta).mono ?_); rintro e w7 ⟨rfl, hb⟩; have HB7 := Lib.hid (bTr HBi.out hb); have HN7 := Lib.hid (HNBi.out.below hb); clear hb)
            | (go_at_call 37; (with_reducible refine (note_any HN7.out HNE.out o1).mono ?_); rintro e w8 ⟨rfl, hn, hb⟩; have HB8 := Lib.hid (HB7.out.trans (hb.below (B := w6.heap.size) (fun j hj => by rcases hj with e | e <;> omega) HB7.out.size)); have HN8 := Lib.hid hn; clear hn hb))
          go_roundw
          case rel => exact ⟨i + 1, _, by omega, by go_num, HD2.out, HN8.out, HB8.out⟩
          case measure => simp [intOf]; omega
        | false =>
          have HD2 := Lib.hid (HA.out.trans HD.out)
          rw [if_neg (by decide)] at HD2
          go_wp2_with (go_at_call 38; (with_reducible refine (HO.out _ HSi.out.ta).mono ?_); rintro e w7 ⟨rfl, hb⟩; have HB7 := Lib.hid (bTr HBi.out hb); have HN7 := Lib.hid (HNBi.out.below hb); clear hb)
          go_roundw
          case rel => exact ⟨i + 1, _, by omega, by go_num, HD2.out, HN7.out, HB7.out⟩
          case measure => simp [intOf]; omega
      · obtain rfl : n = i := by omega
        have dd : decide ((n : Int) < (n : Int)) = false := decide_eq_false (by omega)
        have HA2 : Hid (whenL (p.turn x).b1 (p.turn x).c1 (p.turn x).t1 x (clsN s 8) (0, false) = a) := Lib.hid (by rw [HA.out, HN.out, List.drop_length]; rfl)
        obtain ⟨F9, h9, _⟩ := hs.pl
        obtain ⟨gg, hgg⟩ := h9.gs
        obtain ⟨-, -, -, -, -, -, r6, r7⟩ := hgg.gt.cells
        rw [hgg.e5] at r6
        rw [hgg.e6] at r7
        have x1 := cell_of_row _ _ 0 _ _ _ HNBi.out.h1
        have x2 := cell_of_row _ _ 0 _ _ _ HNBi.out.h2
        rw [HA2.out] at HEV
        clear hs h9 hgg
        cases hwt : (p.turn x).wt with
        | false =>
          rw [hwt] at r7 HEV
          rw [if_neg (by decide)] at HEV
          clear hwt
          go_wp2_with fail
          go_quiet (fail)
          go_wp2_with fail
          go_ret2
          rw [HEV.out]
          exact ⟨rfl, HSi.out.pl.below (bDr (bRef _) _)⟩
        | true =>
          rw [hwt] at r7 HEV
          rw [if_pos rfl] at HEV
          clear hwt
          go_wp2_with (go_at_call 37; (with_reducible refine (note_any HNBi.out HNE.out (p.turn x).fr).mono ?_); rintro e w8 ⟨rfl, hn, hb⟩; have HB8 := Lib.hid (HBi.out.trans (hb.below (B := w6.heap.size) (fun j hj => by rcases hj with e | e <;> omega) HBi.out.size)); have HN8 := Lib.hid hn; have x3 := cell_of_row _ _ 0 _ _ _ hn.h1; have x4 := cell_of_row _ _ 0 _ _ _ hn.h2; clear hn hb)
          go_quiet (fail)
          go_wp2_with fail
          go_ret2
          rw [HEV.out]
          exact ⟨rfl, (HS6.out.below HB8.out).pl.below (bDr (bRef _) _)⟩
end

end Go.Proofs.Ytllmfkodgalklaa
