/- For every slice of steps and every class LanesApart answers true: frames of one class are nothing to another one's room and order. No condition. -/
import Derived.Test.YtdjefbnoaclmfaaFLanesApart
import Derived.Test.YtdjefbnoaclmfaaLnEq
namespace Go.Proofs.Ytdjefbnoaclmfaa
open Go.RowKit Go.Joins

/-- Two lanes that share no block. -/
structure LnP (w0 w : World) (b : Nat) (F : Nat → Prop) (s : LS) (b2 : Nat) (G : Nat → Prop) (t : LS) : Prop where
  a : LnB w0 w b F s
  b : LnB w0 w b2 G t
  d : ∀ k, F k → ¬ G k
section
variable {w0 w w' : World} {b b2 : Nat} {F G : Nat → Prop} {s s' t t' : LS}
theorem LnP.below (h : LnP w0 w b F s b2 G t) (hb : Below w.heap.size w w') : LnP w0 w' b F s b2 G t := ⟨h.a.below hb, h.b.below hb, h.d⟩
theorem LnP.alloc (h : LnP w0 w b F s b2 G t) (o : Obj) : LnP w0 (w.alloc o) b F s b2 G t := h.below (bAl (bRef w) o)
theorem LnP.first (h : LnP w0 w b F s b2 G t) (hl : Left w0 w b F s' w') : ∃ F', LnP w0 w' b F' s' b2 G t := by
  obtain ⟨F', h1, h2, h3⟩ := hl
  refine ⟨F', h1, ⟨h.b.ln.but h3 (fun k g f => h.d k f g), h.b.low, h1.bel⟩, fun k f g => ?_⟩
  rcases h2 k f with f | e
  · exact h.d k f g
  · have := h.b.ln.top.2 k g
    omega
theorem LnP.second (h : LnP w0 w b F s b2 G t) (hl : Left w0 w b2 G t' w') : ∃ G', LnP w0 w' b F s b2 G' t' := by
  obtain ⟨G', h1, h2, h3⟩ := hl
  refine ⟨G', ⟨h.a.ln.but h3 (fun k f g => h.d k f g), h.a.low, h1.bel⟩, h1, fun k f g => ?_⟩
  rcases h2 k g with g | e
  · exact h.d k f g
  · have := h.a.ln.top.2 k f
    omega
theorem LnP.first2 (h : LnP w0 w b F s b2 G t) (hl : Left w0 w b F s' w') : ∃ F', LnP w0 w' b F' s' b2 G t ∧ ButP F w w' := by
  have h4 := hl
  obtain ⟨F2, h3⟩ := h.first hl
  obtain ⟨_, _, _, h5⟩ := h4
  exact ⟨F2, h3, h5⟩
theorem LnP.second2 (h : LnP w0 w b F s b2 G t) (hl : Left w0 w b2 G t' w') : ∃ G', LnP w0 w' b F s b2 G' t' ∧ ButP G w w' := by
  have h4 := hl
  obtain ⟨F2, h3⟩ := h.second hl
  obtain ⟨_, _, _, h5⟩ := h4
  exact ⟨F2, h3, h5⟩
theorem boxes_stay {o1 o2 : Obj} (h : ButP F ((w.alloc o1).alloc o2) w') (hF : ∀ k, F k → k < w.heap.size) : w'.heap[w.heap.size]? = some o1 ∧ w'.heap[w.heap.size + 1]? = some o2 := by
  have e1 : ((w.alloc o1).alloc o2).heap[w.heap.size]? = some o1 := ((bAl (bRef (w.alloc o1)) o2).block _ (by simp)).trans (heap_alloc_one' w o1)
  have e2 : ((w.alloc o1).alloc o2).heap[w.heap.size + 1]? = some o2 := by
    have := heap_alloc_one' (w.alloc o1) o2
    simpa using this
  exact ⟨(h.block _ (lt_of_heap e1) (fun f => by have := hF _ f; omega)).trans e1, (h.block _ (lt_of_heap e2) (fun f => by have := hF _ f; omega)).trans e2⟩
theorem LnP.setNew {m : Nat} (h : LnP w0 w b F s b2 G t) (ha : ∀ k, F k → k < m) (hb : ∀ k, G k → k < m) (h0 : w0.heap.size ≤ m) (i : Nat) (v : Value) : LnP w0 (w.setCell ⟨m, i, none⟩ v) b F s b2 G t := by
  have hbut : ButP (fun k => k = m) w (w.setCell ⟨m, i, none⟩ v) := ⟨rfl, rfl, rfl, by simp, fun k _ hn => heap_setCell_other w ⟨m, i, none⟩ k v (fun e => hn e)⟩
  have hbel : Below w0.heap.size w0 (w.setCell ⟨m, i, none⟩ v) := h.a.bel.trans (hbut.below (fun k e => by omega) h.a.bel.size)
  exact ⟨⟨h.a.ln.but hbut (fun k f e => by have := ha k f; omega), h.a.low, hbel⟩, ⟨h.b.ln.but hbut (fun k f e => by have := hb k f; omega), h.b.low, hbel⟩, h.d⟩
/-- Both are the same for one class. -/
structure Like (c : Nat) (s t : LS) : Prop where
  gs : s.Good
  gt : t.Good
  rs : s.r = fun _ => 5
  rt : t.r = fun _ => 5
  q : s.q c = t.q c
  l : s.lost c = t.lost c
theorem r5_ok : okR (fun _ => 5) 8 := fun _ _ => ⟨show (0 : Int) ≤ 5 by decide, show (5 : Int) ≤ 4096 by decide⟩
theorem Like.pute {c : Nat} (h : Like c s t) (x : It) : t.pute (c : Int) x = s.pute (c : Int) x := by
  unfold LS.pute LS.full
  rw [h.rs, h.rt, show (c : Int).toNat = c by omega, h.q]
theorem Like.both {c : Nat} (h : Like c s t) (x : It) : Like c (s.put (c : Int) x) (t.put (c : Int) x) := by
  have e := h.pute x
  refine ⟨h.gs.put (by rw [h.rs]; exact r5_ok) _ _, h.gt.put (by rw [h.rt]; exact r5_ok) _ _, (put_r _ _ _).trans h.rs, (put_r _ _ _).trans h.rt, ?_, ?_⟩
  · unfold LS.put
    rw [e, show (c : Int).toNat = c by omega]
    by_cases h0 : s.pute (c : Int) x = 0
    · rw [if_pos h0, if_pos h0]
      show upd s.q c _ c = upd t.q c _ c
      rw [upd_same, upd_same, h.q]
    · rw [if_neg h0, if_neg h0]
      by_cases h3 : s.pute (c : Int) x = 30
      · rw [if_pos h3, if_pos h3]; exact h.q
      · rw [if_neg h3, if_neg h3]; exact h.q
  · unfold LS.put
    rw [e, show (c : Int).toNat = c by omega]
    by_cases h0 : s.pute (c : Int) x = 0
    · rw [if_pos h0, if_pos h0]; exact h.l
    · rw [if_neg h0, if_neg h0]
      by_cases h3 : s.pute (c : Int) x = 30
      · rw [if_pos h3, if_pos h3]
        show upd s.lost c _ c = upd t.lost c _ c
        rw [upd_same, upd_same, h.l]
      · rw [if_neg h3, if_neg h3]; exact h.l
theorem Like.other {c d : Nat} (h : Like c s t) (hd : d ≠ c) (x : It) : Like c (s.put (d : Int) x) t := by
  refine ⟨h.gs.put (by rw [h.rs]; exact r5_ok) _ _, h.gt, (put_r _ _ _).trans h.rs, h.rt, ?_, ?_⟩
  · unfold LS.put
    rw [show (d : Int).toNat = d by omega]
    split
    · exact (upd_other s.q _ (fun e => hd e.symm)).trans h.q
    · split <;> exact h.q
  · unfold LS.put
    rw [show (d : Int).toNat = d by omega]
    split
    · exact h.l
    · split
      · exact (upd_other s.lost _ (fun e => hd e.symm)).trans h.l
      · exact h.l
theorem Like.pop {c : Nat} (h : Like c s t) (hc : c < 8) {x : It} {L : List It} (hq : s.q c = x :: L) : Like c { s with q := upd s.q c L } { t with q := upd t.q c L } :=
  ⟨h.gs.pop hc hq, h.gt.pop hc (h.q.symm.trans hq), h.rs, h.rt, by show upd s.q c L c = upd t.q c L c; rw [upd_same, upd_same], h.l⟩
/-- Time for one class alone. -/
def only (c : Nat) : Nat → Int := upd (fun _ => -1) c 1048576
theorem only_not {c d : Nat} (h : s.Good) (hd : d < 8) (hne : d ≠ c) : ¬ fits s (only c) d := by
  rintro ⟨x, L, hq, hx⟩
  have := (h.sz d hd x (by rw [hq]; exact List.mem_cons_self ..)).1
  rw [only, upd_other _ _ hne] at hx
  omega
theorem pick_one (h : LnB w0 w b F s) (G : s.Good) {c : Nat} (hc : c < 8) {x : It} {L : List It} (hq : s.q c = x :: L) : Calls Try.prog 9 #[.pointer (some ⟨b, 0, none⟩), a8 (only c)] w fun e w' => e = .returned (.tuple #[.int .i64 (c : Int), .agg #[.int .i64 x.1, .int .i64 x.2.1, .bool x.2.2], .bool true]) ∧ Left w0 w b F { s with q := upd s.q c L } w' :=
  pickB_some h G hc hq (by
    have := (G.sz c hc x (by rw [hq]; exact List.mem_cons_self ..)).2
    rw [only, upd_same]
    omega) (fun d hd h8 => only_not G h8 (by omega))
theorem pick_no (h : LnB w0 w b F s) (G : s.Good) {c : Nat} (hc : c < 8) (hq : s.q c = []) : Calls Try.prog 9 #[.pointer (some ⟨b, 0, none⟩), a8 (only c)] w fun e w' => e = .returned (.tuple #[.int .i64 0, .agg #[.int .i64 0, .int .i64 0, .bool false], .bool false]) ∧ Left w0 w b F s w' :=
  pickB_none h G (fun d hd hf => by
    by_cases e : d = c
    · subst e
      obtain ⟨x, L, h1, _⟩ := hf
      rw [hq] at h1
      cases h1
    · exact only_not G hd e hf)
end
def ApRel (w : World) (b b2 n c : Nat) (iv : Value) (wr : World) : Prop :=
  ∃ (k : Nat) (s t : LS) (F G : Nat → Prop), iv = .int .i64 (k : Int) ∧ k ≤ n ∧ Like c s t ∧ LnP w wr b F s b2 G t
/-- The box of times, once one of them is set. -/
theorem only_box {w : World} {g c : Nat} (hc : c < 8) (h : w.heap[g]? = some (o8 (fun _ => -1))) : (w.setCell ⟨g, c, none⟩ (.int .i64 1048576)).heap[g]? = some (o8 (only c)) := by
  have := heap_setCell_same w g c _ _ (.int .i64 1048576) h
  rw [this]
  rcases eight_cases hc with rfl | rfl | rfl | rfl | rfl | rfl | rfl | rfl <;> rfl
set_option maxRecDepth 20000 in
set_option maxHeartbeats 8000000 in
theorem lapart_any (p : Option Addr) (n c : Nat) (z : Int) (w : World) (ha : SlArg 13 Oksandglasslaw15Step w (.slice p n c) n) :
    Calls Try.prog 5 #[.slice p n c, .int .i64 z] w fun e w' => e = .returned (.bool true) ∧ Below w.heap.size w w' := by
  have HH := Lib.hid lhead_ret
  have HE : Hid (∀ n W, Calls Try.prog 10 #[.int .i64 n] W fun e w' => e = .returned (V8 n n n n n n n n) ∧ Below W.heap.size W w') := Lib.hid (fun n W => eight_ret n W)
  have HN : Hid (∀ W, Below w.heap.size w W → Calls Try.prog 8 #[V8 5 5 5 5 5 5 5 5] W fun e w' => ∃ b, e = .returned (.tuple #[.pointer (some ⟨b, 0, none⟩), .int .i64 0]) ∧ W.heap.size ≤ b ∧ LnB w w' b (fun k => k = b) (LS.new (fun _ => 5)) ∧ Below W.heap.size W w') := Lib.hid (fun W hW => new_yes _ r5_ok w W hW)
  have HA := Lib.hid ha
  clear ha
  by_cases hn : 60 < n
  · have d0 : decide ((60 : Int) < (n : Int)) = true := decide_eq_true (by omega)
    clear hn
    go_enter Try.func5, Try.ntmps5
    go_wp2_with (go_at_call 7; (with_reducible refine (HH.out _).mono ?_); rintro e x1 ⟨rfl, hb⟩; have HB := Lib.hid hb; clear hb)
    go_ret
    exact ⟨rfl, HB.out⟩
  have d0 : decide ((60 : Int) < (n : Int)) = false := decide_eq_false (by omega)
  have HNN : Hid (n ≤ 60) := Lib.hid (by omega)
  clear hn
  have hlow := low3 z
  obtain ⟨cl, hcl⟩ : ∃ cl : Nat, z % 8 = (cl : Int) := ⟨(z % 8).toNat, by omega⟩
  have hc8 : cl < 8 := by omega
  rw [hcl] at hlow
  have HC8 := Lib.hid hc8
  clear hcl hc8
  go_enter Try.func5, Try.ntmps5
  go_upto_region 7 with (first
    | (go_at_call 7; (with_reducible refine (HH.out _).mono ?_); rintro e x1 ⟨rfl, hb⟩; have HB := Lib.hid hb; clear hb)
    | (go_at_call 10; (with_reducible refine (HE.out 5 _).mono ?_); rintro e x2 ⟨rfl, hb⟩; have HB2 := Lib.hid (bTr HB.out hb); clear hb)
    | (go_at_call 8; (with_reducible refine (HN.out _ HB2.out).mono ?_); rintro e x3 ⟨b, rfl, hlo, hm, hb⟩; have HM3 := Lib.hid hm; clear hlo hm hb))
  go_wp2_with (first
    | (go_at_call 10; (with_reducible refine (HE.out 5 _).mono ?_); rintro e x4 ⟨rfl, hb⟩; have HM4 := Lib.hid (HM3.out.below hb); clear hb)
    | (go_at_call 8; (with_reducible refine (HN.out _ HM4.out.bel).mono ?_); rintro e x5 ⟨b2, rfl, hlo, hm, hb⟩; have HP5 : Hid (LnP w x5 b (fun k => k = b) (LS.new (fun _ => 5)) b2 (fun k => k = b2) (LS.new (fun _ => 5))) := Lib.hid ⟨HM4.out.below hb, hm, fun k e1 e2 => by have := HM4.out.ln.top.2 b rfl; omega⟩; clear hlo hm hb))
  clear HN HH
  go_loopw [46] (fun iv wr => ApRel w b b2 n cl iv wr) (fun iv _ => n - (intOf iv).toNat)
  case atStart => exact ⟨0, _, _, _, _, rfl, by omega, ⟨new_good _, new_good _, rfl, rfl, rfl, rfl⟩, HP5.out⟩
  case round =>
    clear HP5 HM4 HM3 HB2 HB
    obtain ⟨k, s, t, F, G, rfl, hk, hlk, hp⟩ := hrel
    have HLK := Lib.hid hlk
    have HP := Lib.hid hp
    have hn := HNN.out
    clear hlk hp
    rcases Nat.lt_or_ge k n with g1 | g1
    · have hd : decide ((k : Int) < (n : Int)) = true := decide_eq_true (by omega)
      obtain ⟨ab, ao, Fa, rfl, hab, hF⟩ := SlArg.at HA.out (by omega)
      obtain ⟨⟨z0, z1, z2, z3, z4, z5, z6, z7, z8, z9, z10, z11, z12, hz, bs⟩, hlen, hc⟩ := hF k g1
      rw [hz] at hc
      have hq := fun j hj => (HP.out.a.bel.cell (p := ⟨ab, ao + k * 13 + j, none⟩) hab).trans (hc j hj)
      have q0 := hq 0 (by omega)
      have q1 := hq 1 (by omega)
      have q2 := hq 2 (by omega)
      have q3 := hq 3 (by omega)
      have q4 := hq 4 (by omega)
      have q5 := hq 5 (by omega)
      have q6 := hq 6 (by omega)
      have q7 := hq 7 (by omega)
      have q8 := hq 8 (by omega)
      have q9 := hq 9 (by omega)
      have q10 := hq 10 (by omega)
      have q11 := hq 11 (by omega)
      have q12 := hq 12 (by omega)
      rw [Nat.add_zero] at q0
      simp only [List.getElem?_cons_zero, List.getElem?_cons_succ] at q0 q1 q2 q3 q4 q5 q6 q7 q8 q9 q10 q11 q12
      clear hq hc hlen hz hF bs
      have hlow2 := low10 z3
      have hlow3 := low3 z1
      have hlow4 := low2 z0
      obtain ⟨cc, hcc⟩ : ∃ cc : Nat, z1 % 8 = (cc : Int) := ⟨(z1 % 8).toNat, by omega⟩
      rw [hcc] at hlow3
      generalize z3 % 1024 = y at *
      generalize z0 % 4 = u at *
      clear hcc
      have HXa : Hid (∀ W, LnP w W b F s b2 G t → Calls Try.prog 11 #[.pointer (some ⟨b, 0, none⟩), .int .i64 (cc : Int), .agg #[.int .i64 (k : Int), .int .i64 y, .bool z4]] W fun e w' => e = .returned (.int .i64 (s.pute (cc : Int) ((k : Int), y, z4))) ∧ ∃ F', LnP w w' b F' (s.put (cc : Int) ((k : Int), y, z4)) b2 G t ∧ ButP F W w') := Lib.hid (fun W h => (putB h.a HLK.out.gs (cc : Int) ((k : Int), y, z4)).mono fun e w' ⟨h1, h2⟩ => ⟨h1, h.first2 h2⟩)
      by_cases hsame : cc = cl
      · subst hsame
        have dE : ((cc : Int) == (cc : Int)) = true := by simp
        have HXb : Hid (∀ W F', LnP w W b F' (s.put (cc : Int) ((k : Int), y, z4)) b2 G t → Calls Try.prog 11 #[.pointer (some ⟨b2, 0, none⟩), .int .i64 (cc : Int), .agg #[.int .i64 (k : Int), .int .i64 y, .bool z4]] W fun e w' => e = .returned (.int .i64 (s.pute (cc : Int) ((k : Int), y, z4))) ∧ ∃ G', LnP w w' b F' (s.put (cc : Int) ((k : Int), y, z4)) b2 G' (t.put (cc : Int) ((k : Int), y, z4)) ∧ ButP G W w') := Lib.hid (fun W F' h => by
          have key := putB h.b HLK.out.gt (cc : Int) ((k : Int), y, z4)
          rw [HLK.out.pute] at key
          exact key.mono fun e w' ⟨h1, h2⟩ => ⟨h1, h.second2 h2⟩)
        have hlk2 := HLK.out.both ((k : Int), y, z4)
        generalize s.pute (cc : Int) ((k : Int), y, z4) = X at *
        generalize s.put (cc : Int) ((k : Int), y, z4) = s' at *
        generalize t.put (cc : Int) ((k : Int), y, z4) = t' at *
        have HLK2 := Lib.hid hlk2
        clear hlk2
        by_cases hu : u = 1
        · have dU : (u == 1) = true := by simpa using hu
          clear hu
          rcases hq : s'.q cc with _ | ⟨⟨x0, x1, x2⟩, L⟩
          · have HQa : Hid (∀ W F' {G'}, LnP w W b F' s' b2 G' t' → Calls Try.prog 9 #[.pointer (some ⟨b, 0, none⟩), .agg #[.int .i64 (only cc 0), .int .i64 (only cc 1), .int .i64 (only cc 2), .int .i64 (only cc 3), .int .i64 (only cc 4), .int .i64 (only cc 5), .int .i64 (only cc 6), .int .i64 (only cc 7)]] W fun e w' => e = .returned (.tuple #[.int .i64 0, .agg #[.int .i64 0, .int .i64 0, .bool false], .bool false]) ∧ ∃ F2, LnP w w' b F2 s' b2 G' t' ∧ ButP F' W w') := Lib.hid (fun W F' _ h => (pick_no h.a HLK2.out.gs HC8.out hq).mono fun e w' ⟨h1, h2⟩ => ⟨h1, h.first2 h2⟩)
            have HQb : Hid (∀ W F' {G'}, LnP w W b F' s' b2 G' t' → Calls Try.prog 9 #[.pointer (some ⟨b2, 0, none⟩), .agg #[.int .i64 (only cc 0), .int .i64 (only cc 1), .int .i64 (only cc 2), .int .i64 (only cc 3), .int .i64 (only cc 4), .int .i64 (only cc 5), .int .i64 (only cc 6), .int .i64 (only cc 7)]] W fun e w' => e = .returned (.tuple #[.int .i64 0, .agg #[.int .i64 0, .int .i64 0, .bool false], .bool false]) ∧ ∃ G2, LnP w w' b F' s' b2 G2 t' ∧ ButP G' W w') := Lib.hid (fun W F' _ h => (pick_no h.b HLK2.out.gt HC8.out (HLK2.out.q.symm.trans hq)).mono fun e w' ⟨h1, h2⟩ => ⟨h1, h.second2 h2⟩)
            have hne := fun W => run_neIt (0, 0, false) (0, 0, false) W true (by simp)
            unfold itv at hne
            dsimp only at hne
            have HC := HC8.out
            have i1 : (0 : Int) ≤ (cc : Int) := by omega
            have i2 : (cc : Int) < 8 := by omega
            clear hq HC
            go_upto_region 20 with (first
              | (go_at_call 11; (with_reducible refine (HXa.out _ ((HP.out.alloc _).alloc _)).mono ?_); rintro e y1 ⟨rfl, F1, hm, hbut⟩; have HP1 := Lib.hid hm; obtain ⟨hs, hi⟩ := boxes_stay hbut HP.out.a.ln.top.2; have HS1 := Lib.hid hs; have c0 := cell_of_row _ _ 0 _ _ _ hs; have e0 := cell_of_row _ _ 0 _ _ _ hi; have e1 := cell_of_row _ _ 1 _ _ _ hi; have e2 := cell_of_row _ _ 2 _ _ _ hi; simp only [List.getElem?_toArray, List.getElem?_cons_zero, List.getElem?_cons_succ] at c0 e0 e1 e2; clear hm hbut hs hi)
              | (go_at_call 11; (with_reducible refine (HXb.out _ F1 HP1.out).mono ?_); rintro e y2 ⟨rfl, G1, hm, hbut⟩; have HP2 := Lib.hid hm; have d0 := cell_of_row _ _ 0 _ _ _ ((hbut.block _ (lt_of_heap HS1.out) (fun g => by have := HP.out.b.ln.top.2 _ g; omega)).trans HS1.out); simp only [List.getElem?_toArray, List.getElem?_cons_zero] at d0; clear hm hbut)
              | (go_at_call 10; (with_reducible refine (HE.out (-1) _).mono ?_); rintro e y3 ⟨rfl, hb⟩; have HP3 := Lib.hid (HP2.out.below hb); clear hb))
            have hbox : (y3.alloc (.cells #[.int .i64 (-1), .int .i64 (-1), .int .i64 (-1), .int .i64 (-1), .int .i64 (-1), .int .i64 (-1), .int .i64 (-1), .int .i64 (-1)] 22)).heap[y3.heap.size]? = some (o8 (fun _ => -1)) := heap_alloc_one' y3 _
            have hpv : LnP w (y3.alloc (.cells #[.int .i64 (-1), .int .i64 (-1), .int .i64 (-1), .int .i64 (-1), .int .i64 (-1), .int .i64 (-1), .int .i64 (-1), .int .i64 (-1)] 22)) b F1 s' b2 G1 t' := HP3.out.alloc _
            have hfa : ∀ q, F1 q → q < y3.heap.size := HP3.out.a.ln.top.2
            have hfb : ∀ q, G1 q → q < y3.heap.size := HP3.out.b.ln.top.2
            have hlo : w.heap.size ≤ y3.heap.size := HP3.out.a.bel.size
            generalize (y3.alloc (.cells #[.int .i64 (-1), .int .i64 (-1), .int .i64 (-1), .int .i64 (-1), .int .i64 (-1), .int .i64 (-1), .int .i64 (-1), .int .i64 (-1)] 22)) = V0 at hbox hpv ⊢
            generalize y3.heap.size = m at hbox hfa hfb hlo ⊢
            have s0 : V0.cell? ⟨m, cc, none⟩ = some (.int .i64 (-1)) := o8_cells (fun _ => -1) hbox HC8.out
            have s1 : V0.frozen? ⟨m, cc, none⟩ = false := frozen_of_row _ _ _ _ _ hbox
            have HB0 := Lib.hid hbox
            have HV0 := Lib.hid hpv
            have HF0 := Lib.hid (And.intro hfa (And.intro hfb hlo))
            clear hbox hpv hfa hfb hlo
            go_upto_region 21 with fail
            have hbox := only_box HC8.out HB0.out
            have hpv : LnP w (V0.setCell ⟨m, cc, none⟩ (.int .i64 1048576)) b F1 s' b2 G1 t' := HV0.out.setNew HF0.out.1 HF0.out.2.1 HF0.out.2.2 _ _
            have hfa := HF0.out.1
            have hfb := HF0.out.2.1
            generalize V0.setCell ⟨m, cc, none⟩ (.int .i64 1048576) = V at hbox hpv ⊢
            have HBX := Lib.hid hbox
            have HPV := Lib.hid hpv
            have HFA := Lib.hid hfa
            have HFB := Lib.hid hfb
            have r0 := o8_cells (only cc) HBX.out (k := 0) (by decide)
            have r1 := o8_cells (only cc) HBX.out (k := 1) (by decide)
            have r2 := o8_cells (only cc) HBX.out (k := 2) (by decide)
            have r3 := o8_cells (only cc) HBX.out (k := 3) (by decide)
            have r4 := o8_cells (only cc) HBX.out (k := 4) (by decide)
            have r5 := o8_cells (only cc) HBX.out (k := 5) (by decide)
            have r6 := o8_cells (only cc) HBX.out (k := 6) (by decide)
            have r7 := o8_cells (only cc) HBX.out (k := 7) (by decide)
            clear hbox hpv hfa hfb
            go_wp2_with (first
              | (go_at_call 9; (with_reducible refine (HQb.out _ F2 (HM4.out.alloc _)).mono ?_); rintro e y5 ⟨rfl, G2, hm, hbut⟩; have HM5 := Lib.hid (hm.alloc (.cells #[.int .i64 0, .int .i64 0, .bool false] 30)); have HI5 := Lib.hid (((bAl (bRef y5) (.cells #[.int .i64 0, .int .i64 0, .bool false] 30)).block _ (lt_of_heap ((hbut.block _ (lt_of_heap HI4.out) (fun f => by have := HM4.out.b.ln.top.2 _ f; omega)).trans HI4.out))).trans ((hbut.block _ (lt_of_heap HI4.out) (fun f => by have := HM4.out.b.ln.top.2 _ f; omega)).trans HI4.out)); have i0 := cell_of_row _ _ 0 _ _ _ HI5.out; have i1 := cell_of_row _ _ 1 _ _ _ HI5.out; have i2 := cell_of_row _ _ 2 _ _ _ HI5.out; simp only [List.getElem?_toArray, List.getElem?_cons_zero, List.getElem?_cons_succ] at i0 i1 i2; clear hm hbut)
              | (go_at_call 9; (with_reducible refine (HQa.out _ F1 HPV.out).mono ?_); rintro e y4 ⟨rfl, F2, hm, hbut⟩; have HM4 := Lib.hid hm; have HK4 := Lib.hid (show (y4.alloc (.cells #[.int .i64 0, .int .i64 0, .bool false] 30)).heap[m]? = some (o8 (only cc)) from ((bAl (bRef y4) (.cells #[.int .i64 0, .int .i64 0, .bool false] 30)).block m (lt_of_heap ((hbut.block m (lt_of_heap HBX.out) (fun f => by have := HFA.out m f; omega)).trans HBX.out))).trans ((hbut.block m (lt_of_heap HBX.out) (fun f => by have := HFA.out m f; omega)).trans HBX.out)); have p0 := o8_cells (only cc) HK4.out (k := 0) (by decide); have p1 := o8_cells (only cc) HK4.out (k := 1) (by decide); have p2 := o8_cells (only cc) HK4.out (k := 2) (by decide); have p3 := o8_cells (only cc) HK4.out (k := 3) (by decide); have p4 := o8_cells (only cc) HK4.out (k := 4) (by decide); have p5 := o8_cells (only cc) HK4.out (k := 5) (by decide); have p6 := o8_cells (only cc) HK4.out (k := 6) (by decide); have p7 := o8_cells (only cc) HK4.out (k := 7) (by decide); have HI4 := Lib.hid (heap_alloc_one' y4 (.cells #[.int .i64 0, .int .i64 0, .bool false] 30)); clear hm hbut))
            go_roundw
            case rel => exact ⟨k + 1, s', t', F2, G2, by go_num, by omega, HLK2.out, HM5.out⟩
            case measure => simp [intOf]; omega
          · have HQa : Hid (∀ W F' {G'}, LnP w W b F' s' b2 G' t' → Calls Try.prog 9 #[.pointer (some ⟨b, 0, none⟩), .agg #[.int .i64 (only cc 0), .int .i64 (only cc 1), .int .i64 (only cc 2), .int .i64 (only cc 3), .int .i64 (only cc 4), .int .i64 (only cc 5), .int .i64 (only cc 6), .int .i64 (only cc 7)]] W fun e w' => e = .returned (.tuple #[.int .i64 (cc : Int), .agg #[.int .i64 x0, .int .i64 x1, .bool x2], .bool true]) ∧ ∃ F2, LnP w w' b F2 { s' with q := upd s'.q cc L } b2 G' t' ∧ ButP F' W w') := Lib.hid (fun W F' _ h => (pick_one h.a HLK2.out.gs HC8.out hq).mono fun e w' ⟨h1, h2⟩ => ⟨h1, h.first2 h2⟩)
            have HQb : Hid (∀ W F' {G'}, LnP w W b F' { s' with q := upd s'.q cc L } b2 G' t' → Calls Try.prog 9 #[.pointer (some ⟨b2, 0, none⟩), .agg #[.int .i64 (only cc 0), .int .i64 (only cc 1), .int .i64 (only cc 2), .int .i64 (only cc 3), .int .i64 (only cc 4), .int .i64 (only cc 5), .int .i64 (only cc 6), .int .i64 (only cc 7)]] W fun e w' => e = .returned (.tuple #[.int .i64 (cc : Int), .agg #[.int .i64 x0, .int .i64 x1, .bool x2], .bool true]) ∧ ∃ G2, LnP w w' b F' { s' with q := upd s'.q cc L } b2 G2 { t' with q := upd t'.q cc L } ∧ ButP G' W w') := Lib.hid (fun W F' _ h => (pick_one h.b HLK2.out.gt HC8.out (HLK2.out.q.symm.trans hq)).mono fun e w' ⟨h1, h2⟩ => ⟨h1, h.second2 h2⟩)
            have HLK3 := Lib.hid (HLK2.out.pop HC8.out hq)
            have hne := fun W => run_neIt (x0, x1, x2) (x0, x1, x2) W true (by simp)
            unfold itv at hne
            dsimp only at hne
            have HC := HC8.out
            have i1 : (0 : Int) ≤ (cc : Int) := by omega
            have i2 : (cc : Int) < 8 := by omega
            clear hq HC
            go_upto_region 20 with (first
              | (go_at_call 11; (with_reducible refine (HXa.out _ ((HP.out.alloc _).alloc _)).mono ?_); rintro e y1 ⟨rfl, F1, hm, hbut⟩; have HP1 := Lib.hid hm; obtain ⟨hs, hi⟩ := boxes_stay hbut HP.out.a.ln.top.2; have HS1 := Lib.hid hs; have c0 := cell_of_row _ _ 0 _ _ _ hs; have e0 := cell_of_row _ _ 0 _ _ _ hi; have e1 := cell_of_row _ _ 1 _ _ _ hi; have e2 := cell_of_row _ _ 2 _ _ _ hi; simp only [List.getElem?_toArray, List.getElem?_cons_zero, List.getElem?_cons_succ] at c0 e0 e1 e2; clear hm hbut hs hi)
              | (go_at_call 11; (with_reducible refine (HXb.out _ F1 HP1.out).mono ?_); rintro e y2 ⟨rfl, G1, hm, hbut⟩; have HP2 := Lib.hid hm; have d0 := cell_of_row _ _ 0 _ _ _ ((hbut.block _ (lt_of_heap HS1.out) (fun g => by have := HP.out.b.ln.top.2 _ g; omega)).trans HS1.out); simp only [List.getElem?_toArray, List.getElem?_cons_zero] at d0; clear hm hbut)
              | (go_at_call 10; (with_reducible refine (HE.out (-1) _).mono ?_); rintro e y3 ⟨rfl, hb⟩; have HP3 := Lib.hid (HP2.out.below hb); clear hb))
            have hbox : (y3.alloc (.cells #[.int .i64 (-1), .int .i64 (-1), .int .i64 (-1), .int .i64 (-1), .int .i64 (-1), .int .i64 (-1), .int .i64 (-1), .int .i64 (-1)] 22)).heap[y3.heap.size]? = some (o8 (fun _ => -1)) := heap_alloc_one' y3 _
            have hpv : LnP w (y3.alloc (.cells #[.int .i64 (-1), .int .i64 (-1), .int .i64 (-1), .int .i64 (-1), .int .i64 (-1), .int .i64 (-1), .int .i64 (-1), .int .i64 (-1)] 22)) b F1 s' b2 G1 t' := HP3.out.alloc _
            have hfa : ∀ q, F1 q → q < y3.heap.size := HP3.out.a.ln.top.2
            have hfb : ∀ q, G1 q → q < y3.heap.size := HP3.out.b.ln.top.2
            have hlo : w.heap.size ≤ y3.heap.size := HP3.out.a.bel.size
            generalize (y3.alloc (.cells #[.int .i64 (-1), .int .i64 (-1), .int .i64 (-1), .int .i64 (-1), .int .i64 (-1), .int .i64 (-1), .int .i64 (-1), .int .i64 (-1)] 22)) = V0 at hbox hpv ⊢
            generalize y3.heap.size = m at hbox hfa hfb hlo ⊢
            have s0 : V0.cell? ⟨m, cc, none⟩ = some (.int .i64 (-1)) := o8_cells (fun _ => -1) hbox HC8.out
            have s1 : V0.frozen? ⟨m, cc, none⟩ = false := frozen_of_row _ _ _ _ _ hbox
            have HB0 := Lib.hid hbox
            have HV0 := Lib.hid hpv
            have HF0 := Lib.hid (And.intro hfa (And.intro hfb hlo))
            clear hbox hpv hfa hfb hlo
            go_upto_region 21 with fail
            have hbox := only_box HC8.out HB0.out
            have hpv : LnP w (V0.setCell ⟨m, cc, none⟩ (.int .i64 1048576)) b F1 s' b2 G1 t' := HV0.out.setNew HF0.out.1 HF0.out.2.1 HF0.out.2.2 _ _
            have hfa := HF0.out.1
            have hfb := HF0.out.2.1
            generalize V0.setCell ⟨m, cc, none⟩ (.int .i64 1048576) = V at hbox hpv ⊢
            have HBX := Lib.hid hbox
            have HPV := Lib.hid hpv
            have HFA := Lib.hid hfa
            have HFB := Lib.hid hfb
            have r0 := o8_cells (only cc) HBX.out (k := 0) (by decide)
            have r1 := o8_cells (only cc) HBX.out (k := 1) (by decide)
            have r2 := o8_cells (only cc) HBX.out (k := 2) (by decide)
            have r3 := o8_cells (only cc) HBX.out (k := 3) (by decide)
            have r4 := o8_cells (only cc) HBX.out (k := 4) (by decide)
            have r5 := o8_cells (only cc) HBX.out (k := 5) (by decide)
            have r6 := o8_cells (only cc) HBX.out (k := 6) (by decide)
            have r7 := o8_cells (only cc) HBX.out (k := 7) (by decide)
            clear hbox hpv hfa hfb
            go_wp2_with (first
              | (go_at_call 9; (with_reducible refine (HQb.out _ F2 (HM4.out.alloc _)).mono ?_); rintro e y5 ⟨rfl, G2, hm, hbut⟩; have HM5 := Lib.hid (hm.alloc (.cells #[.int .i64 x0, .int .i64 x1, .bool x2] 30)); have HI5 := Lib.hid (((bAl (bRef y5) (.cells #[.int .i64 x0, .int .i64 x1, .bool x2] 30)).block _ (lt_of_heap ((hbut.block _ (lt_of_heap HI4.out) (fun f => by have := HM4.out.b.ln.top.2 _ f; omega)).trans HI4.out))).trans ((hbut.block _ (lt_of_heap HI4.out) (fun f => by have := HM4.out.b.ln.top.2 _ f; omega)).trans HI4.out)); have i0 := cell_of_row _ _ 0 _ _ _ HI5.out; have i1 := cell_of_row _ _ 1 _ _ _ HI5.out; have i2 := cell_of_row _ _ 2 _ _ _ HI5.out; simp only [List.getElem?_toArray, List.getElem?_cons_zero, List.getElem?_cons_succ] at i0 i1 i2; clear hm hbut)
              | (go_at_call 9; (with_reducible refine (HQa.out _ F1 HPV.out).mono ?_); rintro e y4 ⟨rfl, F2, hm, hbut⟩; have HM4 := Lib.hid hm; have HK4 := Lib.hid (show (y4.alloc (.cells #[.int .i64 x0, .int .i64 x1, .bool x2] 30)).heap[m]? = some (o8 (only cc)) from ((bAl (bRef y4) (.cells #[.int .i64 x0, .int .i64 x1, .bool x2] 30)).block m (lt_of_heap ((hbut.block m (lt_of_heap HBX.out) (fun f => by have := HFA.out m f; omega)).trans HBX.out))).trans ((hbut.block m (lt_of_heap HBX.out) (fun f => by have := HFA.out m f; omega)).trans HBX.out)); have p0 := o8_cells (only cc) HK4.out (k := 0) (by decide); have p1 := o8_cells (only cc) HK4.out (k := 1) (by decide); have p2 := o8_cells (only cc) HK4.out (k := 2) (by decide); have p3 := o8_cells (only cc) HK4.out (k := 3) (by decide); have p4 := o8_cells (only cc) HK4.out (k := 4) (by decide); have p5 := o8_cells (only cc) HK4.out (k := 5) (by decide); have p6 := o8_cells (only cc) HK4.out (k := 6) (by decide); have p7 := o8_cells (only cc) HK4.out (k := 7) (by decide); have HI4 := Lib.hid (heap_alloc_one' y4 (.cells #[.int .i64 x0, .int .i64 x1, .bool x2] 30)); clear hm hbut))
            go_roundw
            case rel => exact ⟨k + 1, { s' with q := upd s'.q cc L }, { t' with q := upd t'.q cc L }, F2, G2, by go_num, by omega, HLK3.out, HM5.out⟩
            case measure => simp [intOf]; omega
        · have dU : (u == 1) = false := by rw [beq_eq_false_iff_ne]; exact hu
          clear hu
          go_wp2_with (first
            | (go_at_call 11; (with_reducible refine (HXa.out _ ((HP.out.alloc _).alloc _)).mono ?_); rintro e y1 ⟨rfl, F1, hm, hbut⟩; have HP1 := Lib.hid hm; obtain ⟨hs, hi⟩ := boxes_stay hbut HP.out.a.ln.top.2; have HS1 := Lib.hid hs; have c0 := cell_of_row _ _ 0 _ _ _ hs; have e0 := cell_of_row _ _ 0 _ _ _ hi; have e1 := cell_of_row _ _ 1 _ _ _ hi; have e2 := cell_of_row _ _ 2 _ _ _ hi; simp only [List.getElem?_toArray, List.getElem?_cons_zero, List.getElem?_cons_succ] at c0 e0 e1 e2; clear hm hbut hs hi)
            | (go_at_call 11; (with_reducible refine (HXb.out _ F1 HP1.out).mono ?_); rintro e y2 ⟨rfl, G1, hm, hbut⟩; have HP2 := Lib.hid hm; have d0 := cell_of_row _ _ 0 _ _ _ ((hbut.block _ (lt_of_heap HS1.out) (fun g => by have := HP.out.b.ln.top.2 _ g; omega)).trans HS1.out); simp only [List.getElem?_toArray, List.getElem?_cons_zero] at d0; clear hm hbut))
          go_roundw
          case rel => exact ⟨k + 1, s', t', F1, G1, by go_num, by omega, HLK2.out, HP2.out⟩
          case measure => simp [intOf]; omega
      · have dE : ((cc : Int) == (cl : Int)) = false := by
          rw [beq_eq_false_iff_ne]
          omega
        have hlk2 := HLK.out.other hsame ((k : Int), y, z4)
        generalize s.pute (cc : Int) ((k : Int), y, z4) = X at *
        generalize s.put (cc : Int) ((k : Int), y, z4) = s' at *
        obtain ⟨t', ht'⟩ : ∃ t', t' = t := ⟨t, rfl⟩
        rw [← ht'] at hlk2 HXa HP
        clear ht'
        have HLK2 := Lib.hid hlk2
        clear hlk2
        by_cases hu : u = 1
        · have dU : (u == 1) = true := by simpa using hu
          clear hu
          rcases hq : s'.q cl with _ | ⟨⟨x0, x1, x2⟩, L⟩
          · have HQa : Hid (∀ W F' {G'}, LnP w W b F' s' b2 G' t' → Calls Try.prog 9 #[.pointer (some ⟨b, 0, none⟩), .agg #[.int .i64 (only cl 0), .int .i64 (only cl 1), .int .i64 (only cl 2), .int .i64 (only cl 3), .int .i64 (only cl 4), .int .i64 (only cl 5), .int .i64 (only cl 6), .int .i64 (only cl 7)]] W fun e w' => e = .returned (.tuple #[.int .i64 0, .agg #[.int .i64 0, .int .i64 0, .bool false], .bool false]) ∧ ∃ F2, LnP w w' b F2 s' b2 G' t' ∧ ButP F' W w') := Lib.hid (fun W F' _ h => (pick_no h.a HLK2.out.gs HC8.out hq).mono fun e w' ⟨h1, h2⟩ => ⟨h1, h.first2 h2⟩)
            have HQb : Hid (∀ W F' {G'}, LnP w W b F' s' b2 G' t' → Calls Try.prog 9 #[.pointer (some ⟨b2, 0, none⟩), .agg #[.int .i64 (only cl 0), .int .i64 (only cl 1), .int .i64 (only cl 2), .int .i64 (only cl 3), .int .i64 (only cl 4), .int .i64 (only cl 5), .int .i64 (only cl 6), .int .i64 (only cl 7)]] W fun e w' => e = .returned (.tuple #[.int .i64 0, .agg #[.int .i64 0, .int .i64 0, .bool false], .bool false]) ∧ ∃ G2, LnP w w' b F' s' b2 G2 t' ∧ ButP G' W w') := Lib.hid (fun W F' _ h => (pick_no h.b HLK2.out.gt HC8.out (HLK2.out.q.symm.trans hq)).mono fun e w' ⟨h1, h2⟩ => ⟨h1, h.second2 h2⟩)
            have hne := fun W => run_neIt (0, 0, false) (0, 0, false) W true (by simp)
            unfold itv at hne
            dsimp only at hne
            have HC := HC8.out
            have i1 : (0 : Int) ≤ (cl : Int) := by omega
            have i2 : (cl : Int) < 8 := by omega
            clear hq HC
            go_upto_region 20 with (first
              | (go_at_call 11; (with_reducible refine (HXa.out _ ((HP.out.alloc _).alloc _)).mono ?_); rintro e y1 ⟨rfl, F1, hm, hbut⟩; have HP1 := Lib.hid hm; obtain ⟨hs, hi⟩ := boxes_stay hbut HP.out.a.ln.top.2; have HS1 := Lib.hid hs; have c0 := cell_of_row _ _ 0 _ _ _ hs; have e0 := cell_of_row _ _ 0 _ _ _ hi; have e1 := cell_of_row _ _ 1 _ _ _ hi; have e2 := cell_of_row _ _ 2 _ _ _ hi; simp only [List.getElem?_toArray, List.getElem?_cons_zero, List.getElem?_cons_succ] at c0 e0 e1 e2; clear hm hbut hs hi)
              | (go_at_call 10; (with_reducible refine (HE.out (-1) _).mono ?_); rintro e y3 ⟨rfl, hb⟩; have HP3 := Lib.hid (HP1.out.below hb); clear hb))
            have hbox : (y3.alloc (.cells #[.int .i64 (-1), .int .i64 (-1), .int .i64 (-1), .int .i64 (-1), .int .i64 (-1), .int .i64 (-1), .int .i64 (-1), .int .i64 (-1)] 22)).heap[y3.heap.size]? = some (o8 (fun _ => -1)) := heap_alloc_one' y3 _
            have hpv : LnP w (y3.alloc (.cells #[.int .i64 (-1), .int .i64 (-1), .int .i64 (-1), .int .i64 (-1), .int .i64 (-1), .int .i64 (-1), .int .i64 (-1), .int .i64 (-1)] 22)) b F1 s' b2 G t' := HP3.out.alloc _
            have hfa : ∀ q, F1 q → q < y3.heap.size := HP3.out.a.ln.top.2
            have hfb : ∀ q, G q → q < y3.heap.size := HP3.out.b.ln.top.2
            have hlo : w.heap.size ≤ y3.heap.size := HP3.out.a.bel.size
            generalize (y3.alloc (.cells #[.int .i64 (-1), .int .i64 (-1), .int .i64 (-1), .int .i64 (-1), .int .i64 (-1), .int .i64 (-1), .int .i64 (-1), .int .i64 (-1)] 22)) = V0 at hbox hpv ⊢
            generalize y3.heap.size = m at hbox hfa hfb hlo ⊢
            have s0 : V0.cell? ⟨m, cl, none⟩ = some (.int .i64 (-1)) := o8_cells (fun _ => -1) hbox HC8.out
            have s1 : V0.frozen? ⟨m, cl, none⟩ = false := frozen_of_row _ _ _ _ _ hbox
            have HB0 := Lib.hid hbox
            have HV0 := Lib.hid hpv
            have HF0 := Lib.hid (And.intro hfa (And.intro hfb hlo))
            clear hbox hpv hfa hfb hlo
            go_upto_region 21 with fail
            have hbox := only_box HC8.out HB0.out
            have hpv : LnP w (V0.setCell ⟨m, cl, none⟩ (.int .i64 1048576)) b F1 s' b2 G t' := HV0.out.setNew HF0.out.1 HF0.out.2.1 HF0.out.2.2 _ _
            have hfa := HF0.out.1
            have hfb := HF0.out.2.1
            generalize V0.setCell ⟨m, cl, none⟩ (.int .i64 1048576) = V at hbox hpv ⊢
            have HBX := Lib.hid hbox
            have HPV := Lib.hid hpv
            have HFA := Lib.hid hfa
            have HFB := Lib.hid hfb
            have r0 := o8_cells (only cl) HBX.out (k := 0) (by decide)
            have r1 := o8_cells (only cl) HBX.out (k := 1) (by decide)
            have r2 := o8_cells (only cl) HBX.out (k := 2) (by decide)
            have r3 := o8_cells (only cl) HBX.out (k := 3) (by decide)
            have r4 := o8_cells (only cl) HBX.out (k := 4) (by decide)
            have r5 := o8_cells (only cl) HBX.out (k := 5) (by decide)
            have r6 := o8_cells (only cl) HBX.out (k := 6) (by decide)
            have r7 := o8_cells (only cl) HBX.out (k := 7) (by decide)
            clear hbox hpv hfa hfb
            go_wp2_with (first
              | (go_at_call 9; (with_reducible refine (HQb.out _ F2 (HM4.out.alloc _)).mono ?_); rintro e y5 ⟨rfl, G2, hm, hbut⟩; have HM5 := Lib.hid (hm.alloc (.cells #[.int .i64 0, .int .i64 0, .bool false] 30)); have HI5 := Lib.hid (((bAl (bRef y5) (.cells #[.int .i64 0, .int .i64 0, .bool false] 30)).block _ (lt_of_heap ((hbut.block _ (lt_of_heap HI4.out) (fun f => by have := HM4.out.b.ln.top.2 _ f; omega)).trans HI4.out))).trans ((hbut.block _ (lt_of_heap HI4.out) (fun f => by have := HM4.out.b.ln.top.2 _ f; omega)).trans HI4.out)); have i0 := cell_of_row _ _ 0 _ _ _ HI5.out; have i1 := cell_of_row _ _ 1 _ _ _ HI5.out; have i2 := cell_of_row _ _ 2 _ _ _ HI5.out; simp only [List.getElem?_toArray, List.getElem?_cons_zero, List.getElem?_cons_succ] at i0 i1 i2; clear hm hbut)
              | (go_at_call 9; (with_reducible refine (HQa.out _ F1 HPV.out).mono ?_); rintro e y4 ⟨rfl, F2, hm, hbut⟩; have HM4 := Lib.hid hm; have HK4 := Lib.hid (show (y4.alloc (.cells #[.int .i64 0, .int .i64 0, .bool false] 30)).heap[m]? = some (o8 (only cl)) from ((bAl (bRef y4) (.cells #[.int .i64 0, .int .i64 0, .bool false] 30)).block m (lt_of_heap ((hbut.block m (lt_of_heap HBX.out) (fun f => by have := HFA.out m f; omega)).trans HBX.out))).trans ((hbut.block m (lt_of_heap HBX.out) (fun f => by have := HFA.out m f; omega)).trans HBX.out)); have p0 := o8_cells (only cl) HK4.out (k := 0) (by decide); have p1 := o8_cells (only cl) HK4.out (k := 1) (by decide); have p2 := o8_cells (only cl) HK4.out (k := 2) (by decide); have p3 := o8_cells (only cl) HK4.out (k := 3) (by decide); have p4 := o8_cells (only cl) HK4.out (k := 4) (by decide); have p5 := o8_cells (only cl) HK4.out (k := 5) (by decide); have p6 := o8_cells (only cl) HK4.out (k := 6) (by decide); have p7 := o8_cells (only cl) HK4.out (k := 7) (by decide); have HI4 := Lib.hid (heap_alloc_one' y4 (.cells #[.int .i64 0, .int .i64 0, .bool false] 30)); clear hm hbut))
            go_roundw
            case rel => exact ⟨k + 1, s', t', F2, G2, by go_num, by omega, HLK2.out, HM5.out⟩
            case measure => simp [intOf]; omega
          · have HQa : Hid (∀ W F' {G'}, LnP w W b F' s' b2 G' t' → Calls Try.prog 9 #[.pointer (some ⟨b, 0, none⟩), .agg #[.int .i64 (only cl 0), .int .i64 (only cl 1), .int .i64 (only cl 2), .int .i64 (only cl 3), .int .i64 (only cl 4), .int .i64 (only cl 5), .int .i64 (only cl 6), .int .i64 (only cl 7)]] W fun e w' => e = .returned (.tuple #[.int .i64 (cl : Int), .agg #[.int .i64 x0, .int .i64 x1, .bool x2], .bool true]) ∧ ∃ F2, LnP w w' b F2 { s' with q := upd s'.q cl L } b2 G' t' ∧ ButP F' W w') := Lib.hid (fun W F' _ h => (pick_one h.a HLK2.out.gs HC8.out hq).mono fun e w' ⟨h1, h2⟩ => ⟨h1, h.first2 h2⟩)
            have HQb : Hid (∀ W F' {G'}, LnP w W b F' { s' with q := upd s'.q cl L } b2 G' t' → Calls Try.prog 9 #[.pointer (some ⟨b2, 0, none⟩), .agg #[.int .i64 (only cl 0), .int .i64 (only cl 1), .int .i64 (only cl 2), .int .i64 (only cl 3), .int .i64 (only cl 4), .int .i64 (only cl 5), .int .i64 (only cl 6), .int .i64 (only cl 7)]] W fun e w' => e = .returned (.tuple #[.int .i64 (cl : Int), .agg #[.int .i64 x0, .int .i64 x1, .bool x2], .bool true]) ∧ ∃ G2, LnP w w' b F' { s' with q := upd s'.q cl L } b2 G2 { t' with q := upd t'.q cl L } ∧ ButP G' W w') := Lib.hid (fun W F' _ h => (pick_one h.b HLK2.out.gt HC8.out (HLK2.out.q.symm.trans hq)).mono fun e w' ⟨h1, h2⟩ => ⟨h1, h.second2 h2⟩)
            have HLK3 := Lib.hid (HLK2.out.pop HC8.out hq)
            have hne := fun W => run_neIt (x0, x1, x2) (x0, x1, x2) W true (by simp)
            unfold itv at hne
            dsimp only at hne
            have HC := HC8.out
            have i1 : (0 : Int) ≤ (cl : Int) := by omega
            have i2 : (cl : Int) < 8 := by omega
            clear hq HC
            go_upto_region 20 with (first
              | (go_at_call 11; (with_reducible refine (HXa.out _ ((HP.out.alloc _).alloc _)).mono ?_); rintro e y1 ⟨rfl, F1, hm, hbut⟩; have HP1 := Lib.hid hm; obtain ⟨hs, hi⟩ := boxes_stay hbut HP.out.a.ln.top.2; have HS1 := Lib.hid hs; have c0 := cell_of_row _ _ 0 _ _ _ hs; have e0 := cell_of_row _ _ 0 _ _ _ hi; have e1 := cell_of_row _ _ 1 _ _ _ hi; have e2 := cell_of_row _ _ 2 _ _ _ hi; simp only [List.getElem?_toArray, List.getElem?_cons_zero, List.getElem?_cons_succ] at c0 e0 e1 e2; clear hm hbut hs hi)
              | (go_at_call 10; (with_reducible refine (HE.out (-1) _).mono ?_); rintro e y3 ⟨rfl, hb⟩; have HP3 := Lib.hid (HP1.out.below hb); clear hb))
            have hbox : (y3.alloc (.cells #[.int .i64 (-1), .int .i64 (-1), .int .i64 (-1), .int .i64 (-1), .int .i64 (-1), .int .i64 (-1), .int .i64 (-1), .int .i64 (-1)] 22)).heap[y3.heap.size]? = some (o8 (fun _ => -1)) := heap_alloc_one' y3 _
            have hpv : LnP w (y3.alloc (.cells #[.int .i64 (-1), .int .i64 (-1), .int .i64 (-1), .int .i64 (-1), .int .i64 (-1), .int .i64 (-1), .int .i64 (-1), .int .i64 (-1)] 22)) b F1 s' b2 G t' := HP3.out.alloc _
            have hfa : ∀ q, F1 q → q < y3.heap.size := HP3.out.a.ln.top.2
            have hfb : ∀ q, G q → q < y3.heap.size := HP3.out.b.ln.top.2
            have hlo : w.heap.size ≤ y3.heap.size := HP3.out.a.bel.size
            generalize (y3.alloc (.cells #[.int .i64 (-1), .int .i64 (-1), .int .i64 (-1), .int .i64 (-1), .int .i64 (-1), .int .i64 (-1), .int .i64 (-1), .int .i64 (-1)] 22)) = V0 at hbox hpv ⊢
            generalize y3.heap.size = m at hbox hfa hfb hlo ⊢
            have s0 : V0.cell? ⟨m, cl, none⟩ = some (.int .i64 (-1)) := o8_cells (fun _ => -1) hbox HC8.out
            have s1 : V0.frozen? ⟨m, cl, none⟩ = false := frozen_of_row _ _ _ _ _ hbox
            have HB0 := Lib.hid hbox
            have HV0 := Lib.hid hpv
            have HF0 := Lib.hid (And.intro hfa (And.intro hfb hlo))
            clear hbox hpv hfa hfb hlo
            go_upto_region 21 with fail
            have hbox := only_box HC8.out HB0.out
            have hpv : LnP w (V0.setCell ⟨m, cl, none⟩ (.int .i64 1048576)) b F1 s' b2 G t' := HV0.out.setNew HF0.out.1 HF0.out.2.1 HF0.out.2.2 _ _
            have hfa := HF0.out.1
            have hfb := HF0.out.2.1
            generalize V0.setCell ⟨m, cl, none⟩ (.int .i64 1048576) = V at hbox hpv ⊢
            have HBX := Lib.hid hbox
            have HPV := Lib.hid hpv
            have HFA := Lib.hid hfa
            have HFB := Lib.hid hfb
            have r0 := o8_cells (only cl) HBX.out (k := 0) (by decide)
            have r1 := o8_cells (only cl) HBX.out (k := 1) (by decide)
            have r2 := o8_cells (only cl) HBX.out (k := 2) (by decide)
            have r3 := o8_cells (only cl) HBX.out (k := 3) (by decide)
            have r4 := o8_cells (only cl) HBX.out (k := 4) (by decide)
            have r5 := o8_cells (only cl) HBX.out (k := 5) (by decide)
            have r6 := o8_cells (only cl) HBX.out (k := 6) (by decide)
            have r7 := o8_cells (only cl) HBX.out (k := 7) (by decide)
            clear hbox hpv hfa hfb
            go_wp2_with (first
              | (go_at_call 9; (with_reducible refine (HQb.out _ F2 (HM4.out.alloc _)).mono ?_); rintro e y5 ⟨rfl, G2, hm, hbut⟩; have HM5 := Lib.hid (hm.alloc (.cells #[.int .i64 x0, .int .i64 x1, .bool x2] 30)); have HI5 := Lib.hid (((bAl (bRef y5) (.cells #[.int .i64 x0, .int .i64 x1, .bool x2] 30)).block _ (lt_of_heap ((hbut.block _ (lt_of_heap HI4.out) (fun f => by have := HM4.out.b.ln.top.2 _ f; omega)).trans HI4.out))).trans ((hbut.block _ (lt_of_heap HI4.out) (fun f => by have := HM4.out.b.ln.top.2 _ f; omega)).trans HI4.out)); have i0 := cell_of_row _ _ 0 _ _ _ HI5.out; have i1 := cell_of_row _ _ 1 _ _ _ HI5.out; have i2 := cell_of_row _ _ 2 _ _ _ HI5.out; simp only [List.getElem?_toArray, List.getElem?_cons_zero, List.getElem?_cons_succ] at i0 i1 i2; clear hm hbut)
              | (go_at_call 9; (with_reducible refine (HQa.out _ F1 HPV.out).mono ?_); rintro e y4 ⟨rfl, F2, hm, hbut⟩; have HM4 := Lib.hid hm; have HK4 := Lib.hid (show (y4.alloc (.cells #[.int .i64 x0, .int .i64 x1, .bool x2] 30)).heap[m]? = some (o8 (only cl)) from ((bAl (bRef y4) (.cells #[.int .i64 x0, .int .i64 x1, .bool x2] 30)).block m (lt_of_heap ((hbut.block m (lt_of_heap HBX.out) (fun f => by have := HFA.out m f; omega)).trans HBX.out))).trans ((hbut.block m (lt_of_heap HBX.out) (fun f => by have := HFA.out m f; omega)).trans HBX.out)); have p0 := o8_cells (only cl) HK4.out (k := 0) (by decide); have p1 := o8_cells (only cl) HK4.out (k := 1) (by decide); have p2 := o8_cells (only cl) HK4.out (k := 2) (by decide); have p3 := o8_cells (only cl) HK4.out (k := 3) (by decide); have p4 := o8_cells (only cl) HK4.out (k := 4) (by decide); have p5 := o8_cells (only cl) HK4.out (k := 5) (by decide); have p6 := o8_cells (only cl) HK4.out (k := 6) (by decide); have p7 := o8_cells (only cl) HK4.out (k := 7) (by decide); have HI4 := Lib.hid (heap_alloc_one' y4 (.cells #[.int .i64 x0, .int .i64 x1, .bool x2] 30)); clear hm hbut))
            go_roundw
            case rel => exact ⟨k + 1, { s' with q := upd s'.q cl L }, { t' with q := upd t'.q cl L }, F2, G2, by go_num, by omega, HLK3.out, HM5.out⟩
            case measure => simp [intOf]; omega
        · have dU : (u == 1) = false := by rw [beq_eq_false_iff_ne]; exact hu
          clear hu
          go_wp2_with (first
            | (go_at_call 11; (with_reducible refine (HXa.out _ ((HP.out.alloc _).alloc _)).mono ?_); rintro e y1 ⟨rfl, F1, hm, hbut⟩; have HP1 := Lib.hid hm; obtain ⟨hs, hi⟩ := boxes_stay hbut HP.out.a.ln.top.2; have HS1 := Lib.hid hs; have c0 := cell_of_row _ _ 0 _ _ _ hs; have e0 := cell_of_row _ _ 0 _ _ _ hi; have e1 := cell_of_row _ _ 1 _ _ _ hi; have e2 := cell_of_row _ _ 2 _ _ _ hi; simp only [List.getElem?_toArray, List.getElem?_cons_zero, List.getElem?_cons_succ] at c0 e0 e1 e2; clear hm hbut hs hi))
          go_roundw
          case rel => exact ⟨k + 1, s', t', F1, G, by go_num, by omega, HLK2.out, HP1.out⟩
          case measure => simp [intOf]; omega
    · obtain rfl : k = n := by omega
      have hd : decide ((k : Int) < (k : Int)) = false := decide_eq_false (by omega)
      have HLa : Hid (Calls Try.prog 13 #[.pointer (some ⟨b, 0, none⟩), .int .i64 (cl : Int)] wr fun e w' => e = .returned (.int .i64 ((s.q cl).length : Int)) ∧ w' = wr) := Lib.hid (len_yes HP.out.a.ln cl HC8.out)
      have HLb : Hid (Calls Try.prog 13 #[.pointer (some ⟨b2, 0, none⟩), .int .i64 (cl : Int)] wr fun e w' => e = .returned (.int .i64 ((s.q cl).length : Int)) ∧ w' = wr) := Lib.hid (by
        have key := len_yes HP.out.b.ln cl HC8.out
        rw [← HLK.out.q] at key
        exact key)
      have HSa : Hid (Calls Try.prog 14 #[.pointer (some ⟨b, 0, none⟩), .int .i64 (cl : Int)] wr fun e w' => e = .returned (.int .i64 (s.lost cl)) ∧ w' = wr) := Lib.hid (lost_yes HP.out.a.ln cl HC8.out)
      have HSb : Hid (Calls Try.prog 14 #[.pointer (some ⟨b2, 0, none⟩), .int .i64 (cl : Int)] wr fun e w' => e = .returned (.int .i64 (s.lost cl)) ∧ w' = wr) := Lib.hid (by
        have key := lost_yes HP.out.b.ln cl HC8.out
        rw [← HLK.out.l] at key
        exact key)
      go_wp2_with (first
        | (go_at_call 13; (with_reducible refine HLa.out.mono ?_); rintro e w1 ⟨rfl, rfl⟩)
        | (go_at_call 13; (with_reducible refine HLb.out.mono ?_); rintro e w1 ⟨rfl, rfl⟩)
        | (go_at_call 14; (with_reducible refine HSa.out.mono ?_); rintro e w1 ⟨rfl, rfl⟩)
        | (go_at_call 14; (with_reducible refine HSb.out.mono ?_); rintro e w1 ⟨rfl, rfl⟩))
      go_ret
      exact ⟨rfl, HP.out.a.bel⟩

theorem lanesApart_holds : Rows.LanesApartSaid := lanesApart_of (fun v n z w ha _ => by
  obtain ⟨p, c, rfl⟩ := ha.slice
  exact lapart_any p n c z w ha)

end Go.Proofs.Ytdjefbnoaclmfaa
