/- Pair's laws: what told comes to, and the head. -/
import Derived.Test.YtfeoppbincldfaaPrNew
import Derived.Laws.Tables
import Derived.Deep.MidRow
namespace Go.Proofs.Ytfeoppbincldfaa
open Go.RowKit Go.Joins

section
variable {ops : Array Oper} {rest : List Oper} {o : Oper} {a : Act} {w : World} {Q : Exit → Act → World → Prop}
theorem wpList_loadW (hw : Region.wanted o (yielded ops a.tmps) = true) (ty : TypeId) (x : Operand) (ho : o.op = .load ty x) (b f : Nat) (hx : a.eval x = .pointer (some ⟨b, f, none⟩)) (cs : Array Value) (d : TypeDesc) (hc : w.rangeAt b f cs.toList)
    (hu : Try.prog.underlying ty = some d) (hd : d.isRow = true) (hi : (Try.prog.info? ty).map (·.size) = some cs.size) (h : wpList Try.prog ops Q rest (a.put o.dst (.agg cs)) w) : wpList Try.prog ops Q (o :: rest) a w :=
  BigFrame.wpList_want hw fun _ hK => wp_load_mid ty x ho b f hx cs.toList d hc hu hd (by simpa using hi) (hK _ _ h)
theorem wpList_storeNW (hgd : o.guard = none) (ty : TypeId) (x y : Operand) (ho : o.op = .store ty x y) (g : Nat) (hg : g = w.heap.size) (cells old : Array Value) (t : TypeId)
    (hx : a.eval x = .pointer (some ⟨g, 0, none⟩)) (hy : a.eval y = .agg cells) (h1 : cells.all (·.oneCell') = true) (hi : (Try.prog.info? ty).map (·.size) = some cells.size) (hold : old.size = cells.size)
    (h : wpList Try.prog ops Q rest (a.put o.dst undef) (w.alloc (.cells cells t))) : wpList Try.prog ops Q (o :: rest) a (w.alloc (.cells old t)) := by
  subst hg
  exact wpList_store_row hgd ty x y ho w.heap.size cells hx hy t old (heap_alloc_new w _) hi hold h1 (by rw [setRow_newM]; exact h)
end
theorem syn_chk {dom seq src port : Int} (h : Hd dom seq src port) : (SynM dom seq src port).chk = 0 := by
  obtain ⟨d0, d1, q0, q1, s0, s1, p0, p1⟩ := h
  simp [SynM, Mg.chk, Mg.besB, Mg.bestB, Mg.ans, kindB, winB]
  omega
theorem fol_chk {dom seq src port corr time rate : Int} (h : Hd dom seq src port) : (FolM dom seq src port corr time rate).chk = 0 := by
  obtain ⟨d0, d1, q0, q1, s0, s1, p0, p1⟩ := h
  simp [FolM, Mg.chk, Mg.besB, Mg.bestB, Mg.ans, kindB, winB]
  omega
theorem one64 : In64 2199023255552 := ⟨by decide, by decide⟩
/-- What is known of a clock behind told. -/
def CS.tol (s : CS) (at_ t : Int) : CS := ⟨s.dom, false, true, at_, t, 2199023255552, false, 1, 9, at_⟩
theorem tol_sync {s : CS} (ho : s.own = false) (hd : Hd s.dom 1 9 0) (at_ : Int) : s.syncE (SynM s.dom 1 9 0) (SynM s.dom 1 9 0).chk = 0 ∧ s.syncS (SynM s.dom 1 9 0) (SynM s.dom 1 9 0).chk at_ = s.synced 1 9 at_ := by
  have e : s.takes (SynM s.dom 1 9 0) 0 (SynM s.dom 1 9 0).chk = true := by
    unfold CS.takes
    rw [ho, syn_chk hd]
    simp [SynM]
  unfold CS.syncE CS.syncS
  rw [e]
  exact ⟨rfl, rfl⟩
theorem tol_follow {s : CS} (ho : s.own = false) (hd : Hd s.dom 1 9 0) {at_ t : Int} (ht : In64 t) : (s.synced 1 9 at_).folE (FolM s.dom 1 9 0 0 t 2199023255552) (FolM s.dom 1 9 0 0 t 2199023255552).chk 0 2199023255552 = 0 ∧ (s.synced 1 9 at_).folS (FolM s.dom 1 9 0 0 t 2199023255552) (FolM s.dom 1 9 0 0 t 2199023255552).chk 0 2199023255552 = s.tol at_ t := by
  have e : (s.synced 1 9 at_).takes (FolM s.dom 1 9 0 0 t 2199023255552) 8 (FolM s.dom 1 9 0 0 t 2199023255552).chk = true := by
    unfold CS.takes
    rw [fol_chk hd]
    simp [FolM, CS.synced, ho]
  have e2 : (s.synced 1 9 at_).hears (FolM s.dom 1 9 0 0 t 2199023255552) (FolM s.dom 1 9 0 0 t 2199023255552).chk = true := by
    unfold CS.hears
    rw [e]
    simp [FolM, CS.synced]
  obtain ⟨m1, m2⟩ := mul_one' one64
  obtain ⟨z1, z2⟩ := by_zero (r := 2199023255552) (by decide)
  have hI : InB (t + 0) = true := by rw [Int.add_zero]; exact inB_of ht
  have hR : Right 2199023255552 := ⟨by decide, by decide⟩
  have aE : arE 0 t 0 2199023255552 = 0 := by
    unfold arE
    rw [if_pos hI, z1, z2, if_pos rfl, Int.add_zero, Int.add_zero]
    exact fitE_in ht
  have aV : arV 0 t 0 2199023255552 = t := by
    unfold arV
    rw [if_pos hI, z1, z2, if_pos rfl, Int.add_zero, Int.add_zero]
    exact fitV_in ht
  have f : (s.synced 1 9 at_).folE (FolM s.dom 1 9 0 0 t 2199023255552) (FolM s.dom 1 9 0 0 t 2199023255552).chk 0 2199023255552 = 0 := by
    unfold CS.folE
    rw [if_pos e2]
    show (if rE 2199023255552 2199023255552 2199023255552 = 0 then (if Right (rV 2199023255552 2199023255552 2199023255552) then arE 0 t 0 (rV 2199023255552 2199023255552 2199023255552) else 50) else rE 2199023255552 2199023255552 2199023255552) = 0
    rw [m1, m2, if_pos rfl, if_pos hR, aE]
  refine ⟨f, ?_⟩
  unfold CS.folS
  rw [if_pos e2, if_pos f]
  show (s.synced 1 9 at_).told (arV 0 t 0 (rV 2199023255552 2199023255552 2199023255552)) (rV 2199023255552 2199023255552 2199023255552) = _
  rw [m2, aV]
  unfold CS.told CS.synced CS.tol
  rw [ho]
/-- What such a clock tells. -/
theorem tol_time {s : CS} {at_ t x : Int} (h1 : In64 (x - at_)) (h2 : In64 (t + (x - at_))) : (s.tol at_ t).time x = t + (x - at_) ∧ (s.tol at_ t).tells x = true := by
  obtain ⟨o1, o2⟩ := one_by h1
  have hb : (s.tol at_ t).tells x = true := by
    unfold CS.tells
    rw [if_pos (show (s.tol at_ t).known = true from rfl)]
    show (InB (x - at_) && ((rE 2199023255552 (x - at_) 2199023255552 == 0) && InB (t + rV 2199023255552 (x - at_) 2199023255552))) = true
    rw [o1, o2, inB_of h1, inB_of h2]
    rfl
  refine ⟨?_, hb⟩
  unfold CS.time
  rw [if_pos (show (s.tol at_ t).known = true from rfl), if_pos hb]
  show t + rV 2199023255552 (x - at_) 2199023255552 = _
  rw [o2]
theorem tol_fresh {s : CS} {at_ t x most : Int} (h1 : In64 (x - at_)) : (s.tol at_ t).fresh x most = decide (x - at_ ≤ most) := by
  unfold CS.fresh
  rw [if_neg (show ¬ (s.tol at_ t).own = true from fun h => by cases h), if_pos (show (s.tol at_ t).known = true from rfl)]
  show (InB (x - at_) && decide (x - at_ ≤ most)) = _
  rw [inB_of h1, Bool.true_and]
theorem tol_ok {s : CS} {at_ t : Int} (h1 : In64 at_) (h2 : In64 t) : (s.tol at_ t).Ok := ⟨h1, h2, one64, h1⟩
theorem Try.bSynD (d : Int) : Try.prog.built 37 [(0, .int .i64 0), (1, .int .i64 d), (2, .int .i64 1), (3, .int .i64 9)] = some (MC (SynM d 1 9 0) (.slice none 0 0)) := by kernel_rfl
theorem Try.bFolD (d t : Int) : Try.prog.built 37 [(0, .int .i64 8), (1, .int .i64 d), (2, .int .i64 1), (3, .int .i64 9), (6, .int .i64 t), (9, .int .i64 2199023255552)] = some (MC (FolM d 1 9 0 0 t 2199023255552) (.slice none 0 0)) := by kernel_rfl
section
variable {w : World} {p k0 k1 : Nat} {s : PP}
theorem wf_syn {d : Int} (hd : In64 d) : (SynM d 1 9 0).Wf := ⟨in64_0, hd, by show In64 1; exact ⟨by decide, by decide⟩, by show In64 9; exact ⟨by decide, by decide⟩, in64_0, in64_0, in64_0, in64_0, in64_0, in64_0, in64_0, in64_0, in64_0, in64_0, in64_0, fun x hx => by simp [SynM] at hx⟩
theorem wf_fol {d t : Int} (hd : In64 d) (ht : In64 t) : (FolM d 1 9 0 0 t 2199023255552).Wf := ⟨by show In64 8; exact ⟨by decide, by decide⟩, hd, by show In64 1; exact ⟨by decide, by decide⟩, by show In64 9; exact ⟨by decide, by decide⟩, in64_0, in64_0, ht, in64_0, in64_0, one64, in64_0, in64_0, in64_0, in64_0, in64_0, fun x hx => by simp [FolM] at hx⟩
theorem told_by (h : Pw w p k0 k1 s) {d at_ t : Int} (hd : In64 d) (ht : In64 t) {s1 s2 : PP} (e1 : s.inE (SynM d 1 9 0) = 0) (f1 : s.inS (SynM d 1 9 0) at_ = s1) (e2 : s1.folE (FolM d 1 9 0 0 t 2199023255552) 0 2199023255552 = 0) (f2 : s1.folS (FolM d 1 9 0 0 t 2199023255552) 0 2199023255552 = s2) :
    Calls Try.prog 32 #[.pointer (some ⟨p, 0, none⟩), .int .i64 d, .int .i64 at_, .int .i64 t] w fun e w' => e = .returned (.bool true) ∧ LeaveP p k0 k1 w s2 w' := by
  have HS := psync_any h (SynM d 1 9 0) (.slice none 0 0) (wf_syn hd) (lnil w) (by simp [SynM]) at_
  rw [e1, f1] at HS
  have HF : ∀ W, Pw W p k0 k1 s1 → Calls Try.prog 21 #[.pointer (some ⟨p, 0, none⟩), .agg (MC (FolM d 1 9 0 0 t 2199023255552) (.slice none 0 0)), .int .i64 0, .int .i64 2199023255552] W fun e w' => e = .returned (.int .i64 0) ∧ LeaveP p k0 k1 W s2 w' := fun W h1 => by
    have := pfollow_any h1 (FolM d 1 9 0 0 t 2199023255552) (.slice none 0 0) (wf_fol hd ht) (lnil W) (by simp [FolM]) in64_0 one64
    rw [e2, f2] at this
    exact this
  replace HS := Lib.hid HS
  replace HF := Lib.hid HF
  clear h hd ht e1 f1 e2 f2
  go_enter Try.func32, Try.ntmps32
  go_wp2_with (first
    | ((with_reducible refine at_b4 _ _ _ _ ?_); refine wpList_buildGG (by rfl) _ _ rfl (MC (SynM d 1 9 0) (.slice none 0 0)) (by simp only [List.map_toArray, List.map_cons, List.map_nil]; exact Try.bSynD d) ?_)
    | (go_at_call 20; (with_reducible refine HS.out.mono ?_); rintro e w1 ⟨rfl, h1, b1⟩; have H1 := Lib.hid h1; have B1 := Lib.hid b1; clear h1 b1)
    | ((with_reducible refine at_f6 _ _ _ _ _ _ ?_); refine wpList_buildGG (by rfl) _ _ rfl (MC (FolM d 1 9 0 0 t 2199023255552) (.slice none 0 0)) (by simp only [List.map_toArray, List.map_cons, List.map_nil]; exact Try.bFolD d t) ?_)
    | (go_at_call 21; (with_reducible refine (HF.out _ H1.out).mono ?_); rintro e w2 ⟨rfl, h1, b1⟩; have H2 := Lib.hid h1; have B2 := Lib.hid (B1.out.trans b1); clear h1 b1))
  go_ret
  exact ⟨rfl, H2.out, B2.out⟩
theorem told_zero (h : Pw w p k0 k1 s) (hs : s.Ok) (ho : s.a.own = false) {at_ t : Int} (ht : In64 t) : Calls Try.prog 32 #[.pointer (some ⟨p, 0, none⟩), .int .i64 0, .int .i64 at_, .int .i64 t] w fun e w' => e = .returned (.bool true) ∧ LeaveP p k0 k1 w { s with a := s.a.tol at_ t } w' := by
  have hd : Hd s.a.dom 1 9 0 := by rw [hs.da]; exact hd_of (by decide)
  obtain ⟨e1, f1⟩ := tol_sync ho hd at_
  obtain ⟨e2, f2⟩ := tol_follow ho hd (at_ := at_) ht
  rw [hs.da] at e1 f1 e2 f2
  refine told_by h (s1 := { s with a := s.a.synced 1 9 at_ }) in64_0 ht ?_ ?_ ?_ ?_
  · unfold PP.inE; rw [if_pos (show (SynM 0 1 9 0).dom = 0 from rfl)]; exact e1
  · unfold PP.inS; rw [if_pos (show (SynM 0 1 9 0).dom = 0 from rfl), f1]
  · unfold PP.folE; rw [if_pos (show (FolM 0 1 9 0 0 t 2199023255552).dom = 0 from rfl)]; exact e2
  · unfold PP.folS; rw [if_pos (show (FolM 0 1 9 0 0 t 2199023255552).dom = 0 from rfl)]; show ({ s with a := _ } : PP) = _; rw [f2]
theorem told_one (h : Pw w p k0 k1 s) (hs : s.Ok) (ho : s.b.own = false) {at_ t : Int} (ht : In64 t) : Calls Try.prog 32 #[.pointer (some ⟨p, 0, none⟩), .int .i64 1, .int .i64 at_, .int .i64 t] w fun e w' => e = .returned (.bool true) ∧ LeaveP p k0 k1 w { s with b := s.b.tol at_ t } w' := by
  have hd : Hd s.b.dom 1 9 0 := by rw [hs.db]; exact hd_of (by decide)
  obtain ⟨e1, f1⟩ := tol_sync ho hd at_
  obtain ⟨e2, f2⟩ := tol_follow ho hd (at_ := at_) ht
  rw [hs.db] at e1 f1 e2 f2
  refine told_by h (s1 := { s with b := s.b.synced 1 9 at_ }) ⟨by decide, by decide⟩ ht ?_ ?_ ?_ ?_
  · unfold PP.inE; rw [if_neg (show ¬ (SynM 1 1 9 0).dom = 0 by decide), if_pos (show (SynM 1 1 9 0).dom = 1 from rfl)]; exact e1
  · unfold PP.inS; rw [if_neg (show ¬ (SynM 1 1 9 0).dom = 0 by decide), if_pos (show (SynM 1 1 9 0).dom = 1 from rfl), f1]
  · unfold PP.folE; rw [if_neg (show ¬ (FolM 1 1 9 0 0 t 2199023255552).dom = 0 by simp [FolM]), if_pos (show (FolM 1 1 9 0 0 t 2199023255552).dom = 1 from rfl)]; exact e2
  · unfold PP.folS; rw [if_neg (show ¬ (FolM 1 1 9 0 0 t 2199023255552).dom = 0 by simp [FolM]), if_pos (show (FolM 1 1 9 0 0 t 2199023255552).dom = 1 from rfl)]; show ({ s with b := _ } : PP) = _; rw [f2]
end
theorem tol_dom (c : CS) (x y : Int) : (c.tol x y).dom = c.dom := rfl
/-- A pair behind two tellings. -/
def PP.two (most a0 t0 a1 t1 last : Int) : PP := ⟨(CS.new 0).tol a0 t0, (CS.new 1).tol a1 t1, most, false, last⟩
theorem two_ok {most a0 t0 a1 t1 last : Int} (hm : In64 most) (h0 : In64 a0) (g0 : In64 t0) (h1 : In64 a1) (g1 : In64 t1) (hl : last = -1 ∨ last = 0 ∨ last = 1) : (PP.two most a0 t0 a1 t1 last).Ok := ⟨tol_ok h0 g0, tol_ok h1 g1, rfl, rfl, hm, hl⟩
theorem two_held1 {most a0 t0 a1 t1 last x : Int} (h0 : In64 (x - a0)) (h1 : In64 (x - a1)) : (PP.two most a0 t0 a1 t1 last).held1 x = if x - a0 ≤ most then 0 else if x - a1 ≤ most then 1 else last := by
  unfold PP.held1
  show (if ((CS.new 0).tol a0 t0).fresh x most = true then (0 : Int) else if ((CS.new 1).tol a1 t1).fresh x most = true then 1 else last) = _
  rw [tol_fresh h0, tol_fresh h1]
  by_cases q : x - a0 ≤ most
  · rw [if_pos q, decide_eq_true q, if_pos rfl]
  · rw [if_neg q, decide_eq_false q, if_neg (by decide)]
    by_cases r : x - a1 ≤ most
    · rw [if_pos r, decide_eq_true r, if_pos rfl]
    · rw [if_neg r, decide_eq_false r, if_neg (by decide)]
theorem two_picked {most a0 t0 a1 t1 last x : Int} : (PP.two most a0 t0 a1 t1 last).picked x = PP.two most a0 t0 a1 t1 ((PP.two most a0 t0 a1 t1 last).held1 x) := rfl
set_option maxHeartbeats 1000000 in
theorem head21_ret (w : World) : Calls Try.prog 13 #[] w fun e w' => e = .returned (.bool true) ∧ Below w.heap.size w w' := by
  have HN := Lib.hid (fun W => pnew_ok (x := 196608000) (by decide) W)
  have i64 : ∀ x : Int, -9000000000000000000 ≤ x → x ≤ 9000000000000000000 → In64 x := fun x h1 h2 => ⟨by omega, by omega⟩
  have o0 := PP.Ok.new (x := 196608000) (i64 _ (by decide) (by decide))
  have o1 : (⟨(CS.new 0).tol 65536000 589824, CS.new 1, 196608000, false, -1⟩ : PP).Ok := ⟨tol_ok (i64 _ (by decide) (by decide)) (i64 _ (by decide) (by decide)), CS.Ok.new 1, rfl, rfl, i64 _ (by decide) (by decide), .inl rfl⟩
  have HT0 : Hid (∀ W p k0 k1, Pw W p k0 k1 (PP.new 196608000) → Calls Try.prog 32 #[.pointer (some ⟨p, 0, none⟩), .int .i64 0, .int .i64 65536000, .int .i64 589824] W fun e w' => e = .returned (.bool true) ∧ LeaveP p k0 k1 W ⟨(CS.new 0).tol 65536000 589824, CS.new 1, 196608000, false, -1⟩ w') := Lib.hid (fun W p k0 k1 h => told_zero h o0 rfl (i64 _ (by decide) (by decide)))
  have HT1 : Hid (∀ W p k0 k1, Pw W p k0 k1 ⟨(CS.new 0).tol 65536000 589824, CS.new 1, 196608000, false, -1⟩ → Calls Try.prog 32 #[.pointer (some ⟨p, 0, none⟩), .int .i64 1, .int .i64 327680000, .int .i64 458752] W fun e w' => e = .returned (.bool true) ∧ LeaveP p k0 k1 W (PP.two 196608000 65536000 589824 327680000 458752 (-1)) w') := Lib.hid (fun W p k0 k1 h => told_one h o1 rfl (i64 _ (by decide) (by decide)))
  have ok2 : ∀ l : Int, l = -1 ∨ l = 0 ∨ l = 1 → (PP.two 196608000 65536000 589824 327680000 458752 l).Ok := fun l hl => two_ok (i64 _ (by decide) (by decide)) (i64 _ (by decide) (by decide)) (i64 _ (by decide) (by decide)) (i64 _ (by decide) (by decide)) (i64 _ (by decide) (by decide)) hl
  have HP : ∀ (l x l' : Int), (l = -1 ∨ l = 0 ∨ l = 1) → 0 ≤ x → x ≤ 2000000000 → (if x - 65536000 ≤ 196608000 then (0 : Int) else if x - 327680000 ≤ 196608000 then 1 else l) = l' → ∀ W p k0 k1, Pw W p k0 k1 (PP.two 196608000 65536000 589824 327680000 458752 l) → Calls Try.prog 18 #[.pointer (some ⟨p, 0, none⟩), .int .i64 x] W fun e w' => e = .returned (.int .i64 l') ∧ LeaveP p k0 k1 W (PP.two 196608000 65536000 589824 327680000 458752 l') w' := fun l x l' hl x0 x1 he W p k0 k1 h => by
    have key := pick_any h (ok2 l hl) (i64 x (by omega) (by omega))
    rw [two_picked, two_held1 (i64 _ (by omega) (by omega)) (i64 _ (by omega) (by omega)), he] at key
    exact key
  have P1 := Lib.hid (HP (-1) 131072000 0 (by decide) (by decide) (by decide) (by decide))
  have P2 := Lib.hid (HP 0 393216000 1 (by decide) (by decide) (by decide) (by decide))
  have P3 := Lib.hid (HP 1 1310720000 1 (by decide) (by decide) (by decide) (by decide))
  clear HP ok2 o0 o1
  go_enter Try.func13, Try.ntmps13
  go_wp2_with (first
    | (go_at_call 14; (with_reducible refine (HN.out _).mono ?_); rintro e w1 ⟨p, k0, k1, rfl, l0, l1, l2, h1, b1⟩; have H1 := Lib.hid h1; have B1 := Lib.hid b1; have HL := Lib.hid (show ∀ k, k ∈ [p, k0, k1] → w.heap.size ≤ k from by simp; omega); clear h1 b1 l0 l1 l2)
    | (go_at_call 32; (with_reducible refine (HT0.out _ _ _ _ H1.out).mono ?_); rintro e w2 ⟨rfl, h1, b1⟩; have H2 := Lib.hid h1; have B2 := Lib.hid (b1.into B1.out HL.out); clear h1 b1)
    | (go_at_call 32; (with_reducible refine (HT1.out _ _ _ _ H2.out).mono ?_); rintro e w3 ⟨rfl, h1, b1⟩; have H3 := Lib.hid h1; have B3 := Lib.hid (b1.into B2.out HL.out); clear h1 b1)
    | (go_at_call 18; (with_reducible refine (P1.out _ _ _ _ H3.out).mono ?_); rintro e w4 ⟨rfl, h1, b1⟩; have H4 := Lib.hid h1; have B4 := Lib.hid (b1.into B3.out HL.out); clear h1 b1)
    | (go_at_call 18; (with_reducible refine (P2.out _ _ _ _ H4.out).mono ?_); rintro e w5 ⟨rfl, h1, b1⟩; have H5 := Lib.hid h1; have B5 := Lib.hid (b1.into B4.out HL.out); clear h1 b1)
    | (go_at_call 18; (with_reducible refine (P3.out _ _ _ _ H5.out).mono ?_); rintro e w6 ⟨rfl, h1, b1⟩; have H6 := Lib.hid h1; have B6 := Lib.hid (b1.into B5.out HL.out); clear h1 b1))
  go_ret
  exact ⟨rfl, B6.out⟩

end Go.Proofs.Ytfeoppbincldfaa
