/- PtpUnlike. -/
import Derived.Test.YtcdcklkbjfhhnaaPtText
import Derived.OrdersHeld
import Derived.Deep.RegionHeld
import Derived.Deep.RegionWith
namespace Go.Proofs.Ytcdcklkbjfhhnaa
open Go.RowKit Go.Joins

theorem same_yes (m : Mg) (v v' : Value) (w : World) (hl : m.path.length ≤ 140737488355328) (ha : LArg w v m.path) (hb : LArg w v' m.path) :
    Calls Try.prog 15 #[MV m v, MV m v'] w fun e w' => e = .returned (.bool true) ∧ Below w.heap.size w w' := by
  unfold MV
  rcases ha.2 with ⟨e, a, c, rfl, _⟩ | ⟨h0, b, o, c, rfl, _, hr⟩
  · obtain ⟨p', c', rfl⟩ := hb.slice
    rw [e]
    exact same_zero m.kind m.dom m.seq m.src m.port m.corr m.time m.tw m.tp m.rate m.one m.cls m.two m.id m.steps a p' c c' w
  · rcases hb.2 with ⟨e, a, c, rfl, _⟩ | ⟨_, b', o', c', rfl, _, hr'⟩
    · rw [e] at h0; simp at h0
    · exact same_some m.kind m.dom m.seq m.src m.port m.corr m.time m.tw m.tp m.rate m.one m.cls m.two m.id m.steps b o c b' o' c' _ m.path m.path w rfl rfl h0 hl hr hr' true (decide_eq_true rfl)
theorem same_no (m m' : Mg) (v v' : Value) (w : World) (hl : m.path.length ≤ 140737488355328) (ha : LArg w v m.path) (hb : LArg w v' m'.path) (hne : m ≠ m') :
    Calls Try.prog 15 #[MV m v, MV m' v'] w fun e w' => e = .returned (.bool false) ∧ Below w.heap.size w w' := by
  unfold MV
  obtain ⟨p, c, hv⟩ := ha.slice
  obtain ⟨p', c', hv'⟩ := hb.slice
  by_cases hn : m.kind = m'.kind ∧ m.dom = m'.dom ∧ m.seq = m'.seq ∧ m.src = m'.src ∧ m.port = m'.port ∧ m.corr = m'.corr ∧ m.time = m'.time ∧ m.tw = m'.tw ∧ m.tp = m'.tp ∧ m.rate = m'.rate ∧ m.one = m'.one ∧ m.cls = m'.cls ∧ m.two = m'.two ∧ m.id = m'.id ∧ m.steps = m'.steps
  · obtain ⟨kind, dom, seq, src, port, corr, time, tw, tp, rate, one, cls, two, id, steps, path⟩ := m
    obtain ⟨bkind, bdom, bseq, bsrc, bport, bcorr, btime, btw, btp, brate, bone, bcls, btwo, bid, bsteps, bpath⟩ := m'
    dsimp only at *
    obtain ⟨rfl, rfl, rfl, rfl, rfl, rfl, rfl, rfl, rfl, rfl, rfl, rfl, rfl, rfl, rfl⟩ := hn
    by_cases hk : path.length = bpath.length
    · have hp : path ≠ bpath := fun e => hne (by rw [e])
      rcases ha.2 with ⟨e, a, c, rfl, _⟩ | ⟨h0, b, o, c, rfl, _, hr⟩
      · rw [e] at hk hp
        exact absurd (List.eq_nil_of_length_eq_zero hk.symm).symm hp
      · rcases hb.2 with ⟨e, a, c, rfl, _⟩ | ⟨_, b', o', c', rfl, _, hr'⟩
        · rw [e] at hk; simp at hk; rw [hk] at h0; simp at h0
        · rw [← hk]
          exact same_some kind dom seq src port corr time tw tp rate one cls two id steps b o c b' o' c' _ path bpath w rfl hk h0 hl hr hr' false (decide_eq_false hp)
    · subst hv hv'
      exact same_len kind dom seq src port corr time tw tp rate one cls two id steps p p' _ c _ c' w hk
  · subst hv hv'
    exact same_ne m.kind m.dom m.seq m.src m.port m.corr m.time m.tw m.tp m.rate m.one m.cls m.two m.id m.steps m'.kind m'.dom m'.seq m'.src m'.port m'.corr m'.time m'.tw m'.tp m'.rate m'.one m'.cls m'.two m'.id m'.steps p p' _ c _ c' w hn

/-- What holds of the world between the calls. -/
def TwoM (w : World) (m m' : Mg) (v v' x y : Value) (tx ty : List Nat) (W : World) : Prop :=
  Boxed W w.heap.size m v ∧ Boxed W (w.heap.size + 1) m' v' ∧ BArg W x tx ∧ BArg W y ty ∧ Below w.heap.size w W
theorem TwoM.call {w W W' : World} {m m' : Mg} {v v' x y : Value} {tx ty : List Nat} (h : TwoM w m m' v v' x y tx ty W) (hb : Below W.heap.size W W') : TwoM w m m' v v' x y tx ty W' :=
  ⟨h.1.below hb, h.2.1.below hb, h.2.2.1.below hb, h.2.2.2.1.below hb, bTr h.2.2.2.2 hb⟩
theorem TwoM.drew {w W : World} {m m' : Mg} {v v' x y : Value} {tx ty : List Nat} (h : TwoM w m m' v v' x y tx ty W) : TwoM w m m' v v' x y tx ty W.drew :=
  ⟨h.1, h.2.1, h.2.2.1.drew, h.2.2.2.1.drew, bDr1 h.2.2.2.2⟩
section
variable {ops : Array Oper} {Q : Exit → Act → World → Prop} {S : World → Prop} {fuel : Nat} {listed : Array Bool} {a : Act} {w : World}
theorem yieldsIf_loadM {o : Oper} (hw : Region.wanted o (yielded ops a.tmps) = true) (x : Operand) (ho : o.op = .load 28 x) (g : Nat) (hx : a.eval x = .pointer (some ⟨g, 0, none⟩))
    (m : Mg) (u : Value) (hS : ∀ W, S W → Boxed W g m u) : YieldsIf Try.prog ops S o (.agg (MC m u)) a :=
  .inl ⟨hw, fun W hW => by
    have h := run_loadVar_row W g 28 28 (MC m u) (0, 0) _ (hS W hW) Try.underlying28 rfl (by kernel_rfl)
    unfold execOp
    simp only [ho, hx, Instr.loadAt, Instr.sureAddr, Sem.run_bind, Sem.run_pure, Result.andThen_ok, h]⟩
theorem put_some' (k : Nat) (v : Value) (d : Option Tmp) (hd : d = some k) : a.put d v = { a with tmps := a.tmps.setIfInBounds k v } := by subst hd; rfl
theorem hTake {i k : Nat} {o : Oper} {v : Value} (hi : ops[i]? = some o) (hd : o.dst = some k) (hs : Region.noSelect ops = true) (hf : Region.free .any ops listed i = true) (hr : (Region.ready .any ops listed).contains i = true)
    (hQ : ∀ c a w, Q (.panic c) (a.put o.dst v) w → Q (.panic c) a w) (hy : YieldsIf Try.prog ops S o v a) (hS : S w)
    (h : wpAnyH Try.prog .any ops Q S fuel (listed.setIfInBounds i true) { a with tmps := a.tmps.setIfInBounds k v } w) : wpAnyH Try.prog .any ops Q S (fuel + 1) listed a w :=
  wpAnyH_take hi hs hf hr hQ hy hS (by rw [put_some' k v _ hd]; exact h)
theorem yieldsIf_val {o : Oper} {v : Value} (hw : Region.wanted o (yielded ops a.tmps) = true) (h : ∀ W, (execOp a.eval o).run Try.prog W = .ok (.value v) W) : YieldsIf Try.prog ops S o v a := .inl ⟨hw, fun W _ => h W⟩
theorem yieldsIf_skip {o : Oper} (hw : Region.wanted o (yielded ops a.tmps) = false) : YieldsIf Try.prog ops S o undef a := .inr ⟨hw, rfl⟩
theorem hCall {i k : Nat} {o : Oper} (hr : Region.ready .any ops listed = [i]) (ho : ops[i]? = some o) (hd : o.dst = some k) (hw : Region.wanted o (yielded ops a.tmps) = true) (f : FuncId) (args : Array Value)
    (hx : ∀ W, (execOp a.eval o).run Try.prog W = .ok (.enter f args) W) (v : Value) (hc : ∀ W, S W → Calls Try.prog f args W fun e W' => e = .returned v ∧ S W') (hS : S w)
    (h : ∀ W', S W' → wpAnyH Try.prog .any ops Q S fuel (listed.setIfInBounds i true) { a with tmps := a.tmps.setIfInBounds k v } W') : wpAnyH Try.prog .any ops Q S (fuel + 1) listed a w := by
  refine wpAnyH_ready hr (by simp) (AllReadyH.cons ho (fun K hK => ?_) AllReadyH.nil)
  rw [if_pos hw]
  unfold Oper.wp
  rw [hx w]
  refine (hc w hS).mono fun e W' hh => ?_
  obtain ⟨rfl, hS'⟩ := hh
  exact hK _ _ hS' (fun hS'' => by rw [put_some' k v _ hd]; exact h W' hS'')
end

theorem unlike_long (m m' : Mg) (p q : Option Addr) (n c k d : Nat) (w : World) (h : 32 < n ∨ (n ≤ 32 ∧ 32 < k)) :
    Calls Try.prog 7 #[MV m (.slice p n c), MV m' (.slice q k d)] w fun e w' => e = .returned (.bool true) ∧ Below w.heap.size w w' := by
  have HH := head_ret
  have HX0 : Hid (Boxed ((w.alloc (.cells (MC m (.slice p n c)) 28)).alloc (.cells (MC m' (.slice q k d)) 28)) w.heap.size m (.slice p n c)) := Lib.hid (heap_alloc2_old w _ _)
  have HY0 : Hid (Boxed ((w.alloc (.cells (MC m (.slice p n c)) 28)).alloc (.cells (MC m' (.slice q k d)) 28)) (w.heap.size + 1) m' (.slice q k d)) := Lib.hid (heap_alloc2_new w _ _)
  unfold MV
  rcases h with h | ⟨h, h2⟩
  · have hd1 : decide ((32 : Int) < (n : Int)) = true := decide_eq_true (by omega)
    clear h
    go_enter Try.func7, Try.ntmps7
    go_wp2_with (go_at_call 8; (with_reducible refine (HH.go _).mono ?_); rintro e w1 ⟨rfl, hb⟩; have c15 := (HX0.out.below hb).c15; have d15 := (HY0.out.below hb).c15; have HB := Lib.hid (bTr (bAl (bAl (bRef w) _) _) hb); clear hb)
    go_ret
    exact ⟨rfl, HB.out⟩
  · have hd1 : decide ((32 : Int) < (n : Int)) = false := decide_eq_false (by omega)
    have hd2 : decide ((32 : Int) < (k : Int)) = true := decide_eq_true (by omega)
    clear h h2
    go_enter Try.func7, Try.ntmps7
    go_wp2_with (go_at_call 8; (with_reducible refine (HH.go _).mono ?_); rintro e w1 ⟨rfl, hb⟩; have c15 := (HX0.out.below hb).c15; have d15 := (HY0.out.below hb).c15; have HB := Lib.hid (bTr (bAl (bAl (bRef w) _) _) hb); clear hb)
    go_ret
    exact ⟨rfl, HB.out⟩

set_option maxRecDepth 100000 in
set_option maxHeartbeats 1000000 in
theorem unlike_bad (m m' : Mg) (p q : Option Addr) (n c k d x y : Nat) (w : World) (h : n ≤ 32) (h2 : k ≤ 32) (hxy : ((x : Int) != 0) = true ∨ (((x : Int) != 0) = false ∧ ((y : Int) != 0) = true))
    (HE : Hid (EncE w #[.agg (MC m (.slice p n c))] x)) (HF : Hid (EncE w #[.agg (MC m' (.slice q k d))] y)) :
    Calls Try.prog 7 #[MV m (.slice p n c), MV m' (.slice q k d)] w fun e w' => e = .returned (.bool true) ∧ Below w.heap.size w w' := by
  have HH := head_ret
  have HX0 : Hid (Boxed ((w.alloc (.cells (MC m (.slice p n c)) 28)).alloc (.cells (MC m' (.slice q k d)) 28)) w.heap.size m (.slice p n c)) := Lib.hid (heap_alloc2_old w _ _)
  have HY0 : Hid (Boxed ((w.alloc (.cells (MC m (.slice p n c)) 28)).alloc (.cells (MC m' (.slice q k d)) 28)) (w.heap.size + 1) m' (.slice q k d)) := Lib.hid (heap_alloc2_new w _ _)
  unfold MV
  have hd1 : decide ((32 : Int) < (n : Int)) = false := decide_eq_false (by omega)
  have hd2 : decide ((32 : Int) < (k : Int)) = false := decide_eq_false (by omega)
  clear h h2
  rcases hxy with hxy | ⟨hxy, hyy⟩
  all_goals
    go_enter Try.func7, Try.ntmps7
    go_wp2_with (first
      | ((with_reducible refine at_loadM ?_); refine wpList_loadM rfl _ rfl w.heap.size rfl (MC m (.slice p n c)) _ HX.out rfl ?_)
      | ((with_reducible refine at_loadM ?_); refine wpList_loadM rfl _ rfl (w.heap.size + 1) rfl (MC m' (.slice q k d)) _ HY.out rfl ?_)
      | (go_at_call 8; (with_reducible refine (HH.go _).mono ?_); rintro e w1 ⟨rfl, hb⟩; have HX := Lib.hid (HX0.out.below hb); have HY := Lib.hid (HY0.out.below hb); have c15 := HX.out.c15; have d15 := HY.out.c15; have HB := Lib.hid (bTr (bAl (bAl (bRef w) _) _) hb); clear hb)
      | (go_at_call 9; (with_reducible refine (HE.out.go _ HB.out).mono ?_); rintro e w2 ⟨v2, rfl, hb⟩; replace HX := Lib.hid (HX.out.below hb); replace HY := Lib.hid (HY.out.below hb); replace HB := Lib.hid (bTr HB.out hb); clear hb)
      | (go_at_call 9; (with_reducible refine (HF.out.go _ HB.out).mono ?_); rintro e w3 ⟨v3, rfl, hb⟩; replace HB := Lib.hid (bTr HB.out hb); clear hb))
    go_ret
    exact ⟨rfl, HB.out⟩

set_option maxRecDepth 100000 in
set_option maxHeartbeats 4000000 in
theorem unlike_ok (m m' : Mg) (p q : Option Addr) (n c k d : Nat) (tx ty : List Nat) (z : Bool) (w : World) (h : n ≤ 32) (h2 : k ≤ 32)
    (HE : Hid (∀ wx, Below w.heap.size w wx → Calls Try.prog 9 #[.agg (MC m (.slice p n c))] wx fun e w' => ∃ v, e = .returned (.tuple #[v, .int .i64 0]) ∧ OwnB wx w' v tx))
    (HF : Hid (∀ wx, Below w.heap.size w wx → Calls Try.prog 9 #[.agg (MC m' (.slice q k d))] wx fun e w' => ∃ v, e = .returned (.tuple #[v, .int .i64 0]) ∧ OwnB wx w' v ty))
    (hz : Hid (decide (tx = ty) = z)) (HS : Hid (∀ wx, Below w.heap.size w wx → Calls Try.prog 15 #[MV m (.slice p n c), MV m' (.slice q k d)] wx fun e w' => e = .returned (.bool z) ∧ Below wx.heap.size wx w')) :
    Calls Try.prog 7 #[MV m (.slice p n c), MV m' (.slice q k d)] w fun e w' => e = .returned (.bool true) ∧ Below w.heap.size w w' := by
  have HH := head_ret
  have HX0 : Hid (Boxed ((w.alloc (.cells (MC m (.slice p n c)) 28)).alloc (.cells (MC m' (.slice q k d)) 28)) w.heap.size m (.slice p n c)) := Lib.hid (heap_alloc2_old w _ _)
  have HY0 : Hid (Boxed ((w.alloc (.cells (MC m (.slice p n c)) 28)).alloc (.cells (MC m' (.slice q k d)) 28)) (w.heap.size + 1) m' (.slice q k d)) := Lib.hid (heap_alloc2_new w _ _)
  unfold MV at HS ⊢
  have hd1 : decide ((32 : Int) < (n : Int)) = false := decide_eq_false (by omega)
  have hd2 : decide ((32 : Int) < (k : Int)) = false := decide_eq_false (by omega)
  clear h h2
  go_enter Try.func7, Try.ntmps7
  go_wp2_with (first
    | ((with_reducible refine at_loadM ?_); refine wpList_loadM rfl _ rfl w.heap.size rfl (MC m (.slice p n c)) _ HX.out rfl ?_)
    | ((with_reducible refine at_loadM ?_); refine wpList_loadM rfl _ rfl (w.heap.size + 1) rfl (MC m' (.slice q k d)) _ HY.out rfl ?_)
    | (go_at_call 8; (with_reducible refine (HH.go _).mono ?_); rintro e w1 ⟨rfl, hb⟩; have HX := Lib.hid (HX0.out.below hb); have HY := Lib.hid (HY0.out.below hb); have c15 := HX.out.c15; have d15 := HY.out.c15; have HB := Lib.hid (bTr (bAl (bAl (bRef w) _) _) hb); clear hb)
    | (go_at_call 9; (with_reducible refine (HE.out _ HB.out).mono ?_); rintro e w2 ⟨v2, rfl, hown⟩; have HO := Lib.hid hown.arg; have hb := hown.bel; replace HX := Lib.hid (HX.out.below hb); replace HY := Lib.hid (HY.out.below hb); replace HB := Lib.hid (bTr HB.out hb); clear hb hown)
    | (go_at_call 9; (with_reducible refine (HF.out _ HB.out).mono ?_); rintro e w3 ⟨v3, rfl, hown⟩; have HP := Lib.hid hown.arg; have hb := hown.bel; replace HX := Lib.hid (HX.out.below hb); replace HY := Lib.hid (HY.out.below hb); replace HO := Lib.hid (HO.out.below hb); replace HB := Lib.hid (bTr HB.out hb); clear hb hown))
  have H0 : TwoM w m m' (.slice p n c) (.slice q k d) v2 v3 tx ty w3 := ⟨HX.out, HY.out, HO.out, HP.out, HB.out⟩
  clear HX HY HO HP HB HX0 HY0 HH c15 d15 hd1 hd2
  have KS : ∀ W, TwoM w m m' (.slice p n c) (.slice q k d) v2 v3 tx ty W → Calls Try.prog 13 #[v2, v3] W fun e W' => e = .returned (.bool z) ∧ TwoM w m m' (.slice p n c) (.slice q k d) v2 v3 tx ty W' :=
    fun W k => (same_any k.2.2.1 k.2.2.2.1 z hz.out).mono fun e W' hh => ⟨hh.1, hh.2 ▸ k⟩
  have KP : ∀ W, TwoM w m m' (.slice p n c) (.slice q k d) v2 v3 tx ty W → Calls Try.prog 11 #[.agg (MC m (.slice p n c))] W fun e W' => e = .returned (.agg (MC m (.slice p n c))) ∧ TwoM w m m' (.slice p n c) (.slice q k d) v2 v3 tx ty W' :=
    fun W k => ((plain_ret m p n c).go W).mono fun e W' hh => ⟨hh.1, k.call hh.2⟩
  have KQ : ∀ W, TwoM w m m' (.slice p n c) (.slice q k d) v2 v3 tx ty W → Calls Try.prog 11 #[.agg (MC m' (.slice q k d))] W fun e W' => e = .returned (.agg (MC m' (.slice q k d))) ∧ TwoM w m m' (.slice p n c) (.slice q k d) v2 v3 tx ty W' :=
    fun W k' => ((plain_ret m' q k d).go W).mono fun e W' hh => ⟨hh.1, k'.call hh.2⟩
  have KT : ∀ W, TwoM w m m' (.slice p n c) (.slice q k d) v2 v3 tx ty W → Calls Try.prog 15 #[.agg (MC m (.slice p n c)), .agg (MC m' (.slice q k d))] W fun e W' => e = .returned (.bool z) ∧ TwoM w m m' (.slice p n c) (.slice q k d) v2 v3 tx ty W' :=
    fun W k => (HS.out W k.2.2.2.2).mono fun e W' hh => ⟨hh.1, k.call hh.2⟩
  refine wp_region_held_drew (S := TwoM w m m' (.slice p n c) (.slice q k d) v2 v3 tx ty) (by kernel_rfl) H0.drew (fun hT => ?_)
  generalize World.drew _ = wd at hT ⊢
  refine hTake (i := 0) (k := 37) (v := v2) rfl rfl (by kernel_rfl) (by kernel_rfl) (by kernel_rfl) (fun _ _ _ h => h) (yieldsIf_val (by rfl) (by intro W; go_simp)) hT ?_
  simp only [List.setIfInBounds_toArray, List.set_cons_zero, List.set_cons_succ]
  refine hTake (i := 1) (k := 38) (v := v3) rfl rfl (by kernel_rfl) (by kernel_rfl) (by kernel_rfl) (fun _ _ _ h => h) (yieldsIf_val (by rfl) (by intro W; go_simp)) hT ?_
  simp only [List.setIfInBounds_toArray, List.set_cons_zero, List.set_cons_succ]
  refine hTake (i := 3) (k := 40) rfl rfl (by kernel_rfl) (by kernel_rfl) (by kernel_rfl) (fun _ _ _ h => h) (yieldsIf_loadM (by rfl) _ rfl w.heap.size rfl m (.slice p n c) (fun _ k => k.1)) hT ?_
  simp only [List.setIfInBounds_toArray, List.set_cons_zero, List.set_cons_succ]
  refine hTake (i := 5) (k := 42) rfl rfl (by kernel_rfl) (by kernel_rfl) (by kernel_rfl) (fun _ _ _ h => h) (yieldsIf_loadM (by rfl) _ rfl (w.heap.size + 1) rfl m' (.slice q k d) (fun _ k => k.2.1)) hT ?_
  simp only [List.setIfInBounds_toArray, List.set_cons_zero, List.set_cons_succ]
  refine hCall (i := 2) (k := 39) (by kernel_rfl) rfl rfl (by rfl) 13 #[v2, v3] (by intro W; go_simp) (.bool z) KS hT (fun wa hTa => ?_)
  simp only [List.setIfInBounds_toArray, List.set_cons_zero, List.set_cons_succ]
  refine hCall (i := 4) (k := 41) (by kernel_rfl) rfl rfl (by rfl) 11 #[.agg (MC m (.slice p n c))] (by intro W; go_simp) (.agg (MC m (.slice p n c))) KP hTa (fun wb hTb => ?_)
  simp only [List.setIfInBounds_toArray, List.set_cons_zero, List.set_cons_succ]
  refine hCall (i := 6) (k := 43) (by kernel_rfl) rfl rfl (by rfl) 11 #[.agg (MC m' (.slice q k d))] (by intro W; go_simp) (.agg (MC m' (.slice q k d))) KQ hTb (fun wc hTc => ?_)
  simp only [List.setIfInBounds_toArray, List.set_cons_zero, List.set_cons_succ]
  refine hCall (i := 7) (k := 44) (by kernel_rfl) rfl rfl (by rfl) 15 #[.agg (MC m (.slice p n c)), .agg (MC m' (.slice q k d))] (by intro W; go_simp) (.bool z) KT hTc (fun we hTe => ?_)
  simp only [List.setIfInBounds_toArray, List.set_cons_zero, List.set_cons_succ]
  refine hTake (i := 8) (k := 45) (v := .bool true) rfl rfl (by kernel_rfl) (by kernel_rfl) (by kernel_rfl) (fun _ _ _ h => h) (yieldsIf_val (by rfl) (by intro W; go_simp)) hTe ?_
  simp only [List.setIfInBounds_toArray, List.set_cons_zero, List.set_cons_succ]
  refine hTake (i := 9) (k := 4) (v := .bool true) rfl rfl (by kernel_rfl) (by kernel_rfl) (by kernel_rfl) (fun _ _ _ h => h) (yieldsIf_val (by rfl) (by intro W; go_simp)) hTe ?_
  simp only [List.setIfInBounds_toArray, List.set_cons_zero, List.set_cons_succ]
  refine wpAnyH_done (by kernel_rfl) ?_ _
  have HT := Lib.hid hTe.2.2.2.2
  clear KS KP KQ KT H0 hT hTa hTb hTc hTe HE HF HS hz
  go_wp2_with fail
  go_ret
  exact ⟨rfl, HT.out⟩

theorem unlike_walk (m : Mg) (u : Value) (m' : Mg) (u' : Value) (w : World) (hw : m.Wf) (hu : LArg w u m.path) (hw' : m'.Wf) (hu' : LArg w u' m'.path) :
    Calls Try.prog 7 #[MV m u, MV m' u'] w fun e w' => e = .returned (.bool true) ∧ Below w.heap.size w w' := by
  have ha := hu
  have hb := hu'
  obtain ⟨p, c, rfl⟩ := hu.slice
  obtain ⟨q, d, rfl⟩ := hu'.slice
  rcases Nat.lt_or_ge 32 m.path.length with hn | hn
  · exact unlike_long m m' p q _ c _ d w (.inl hn)
  rcases Nat.lt_or_ge 32 m'.path.length with hk | hk
  · exact unlike_long m m' p q _ c _ d w (.inr ⟨hn, hk⟩)
  by_cases h0 : m.chk = 0
  · by_cases h1 : m'.chk = 0
    · have hr := Mg.chk_zero.1 h0
      have hr' := Mg.chk_zero.1 h1
      have enc : ∀ (f : Mg) (v : Value), f.Wf → f.path.length ≤ 32 → f.chk = 0 → LArg w v f.path → ∀ wx, Below w.heap.size w wx → Calls Try.prog 9 #[.agg (MC f v)] wx fun e w' => ∃ v, e = .returned (.tuple #[v, .int .i64 0]) ∧ OwnB wx w' v f.text := fun f v hf hl h hv wx hx => by
        refine Calls.mono (R := EncPost wx f) (encode_any f v wx hf (hv.below hx) (by omega)) fun e w' hh => ?_
        rcases hh with ⟨_, v, rfl, hown⟩ | ⟨h1, _⟩
        · exact ⟨v, rfl, hown⟩
        · exact absurd h h1
      by_cases he : m = m'
      · subst he
        exact unlike_ok m m p q _ c _ d m.text m.text true w hn hk (Lib.hid (enc m _ hw hn h0 ha)) (Lib.hid (enc m _ hw hn h0 hb)) (Lib.hid (decide_eq_true rfl)) (Lib.hid fun wx hx => same_yes m _ _ wx (by omega) (ha.below hx) (hb.below hx))
      · exact unlike_ok m m' p q _ c _ d m.text m'.text false w hn hk (Lib.hid (enc m _ hw hn h0 ha)) (Lib.hid (enc m' _ hw' hk h1 hb)) (Lib.hid (decide_eq_false fun e => he (text_inj hr hr' hw hw' e))) (Lib.hid fun wx hx => same_no m m' _ _ wx (by omega) (ha.below hx) (hb.below hx) he)
    · exact unlike_bad m m' p q _ c _ d m.chk m'.chk w hn hk (.inr ⟨by rw [h0]; rfl, by rw [bne_iff_ne]; omega⟩) (Lib.hid (encE m _ w hw ha (by omega))) (Lib.hid (encE m' _ w hw' hb (by omega)))
  · exact unlike_bad m m' p q _ c _ d m.chk m'.chk w hn hk (.inl (by rw [bne_iff_ne]; omega)) (Lib.hid (encE m _ w hw ha (by omega))) (Lib.hid (encE m' _ w hw' hb (by omega)))

end Go.Proofs.Ytcdcklkbjfhhnaa
