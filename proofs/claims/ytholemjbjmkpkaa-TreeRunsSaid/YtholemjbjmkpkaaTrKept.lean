/- The laws of package tree: their head, the document's example. -/
import Derived.Test.YtholemjbjmkpkaaTrOut
namespace Go.Proofs.Ytholemjbjmkpkaa
open Go.RowKit Go.Joins Go.Deep

theorem Tr.tag {w : World} {b g : Nat} {t : Ts} (h : Tr w b g t) : ∃ cs, w.heap[g]? = some (.cells cs 91 (0, 0)) := by
  obtain ⟨us, h⟩ := h
  obtain ⟨cs, h1, _⟩ := h.row
  exact ⟨cs, h1⟩
theorem Tr.apart {w w' : World} {b g q b' : Nat} {t t' : Ts} (h : Tr w b g t) (hb : ButB q w w') (hq : Tr w b' q t') (hn : q ≠ g) : Tr w' b g t := by
  obtain ⟨cs, h1⟩ := hq.tag
  exact h.other hb h1 hn
theorem ButB.from_ {q : Nat} {w0 w w' : World} (h : ButB q w w') (h0 : Below w0.heap.size w0 w) (hq : w0.heap.size ≤ q) : Below w0.heap.size w0 w' := h0.trans (h.below hq h0.size)
theorem Tr.glt {w : World} {b g : Nat} {t : Ts} (h : Tr w b g t) : g < w.heap.size := by obtain ⟨cs, h1⟩ := h.tag; exact lt_of_heap h1
theorem OwnR.but {w w' : World} {B q : Nat} {v : Value} {xs : List Int} (h : OwnR C1 3 1 B w v xs) (hb : ButB q w w') {cs : Array Value} (hq : w.heap[q]? = some (.cells cs 91 (0, 0))) : OwnR C1 3 1 B w' v xs := by
  refine ⟨h.1, ?_⟩
  rcases h.2 with h | ⟨b, cap, cur, e1, e2, e3, e4⟩
  · exact .inl h
  · exact .inr ⟨b, cap, cur, e1, e2, (hb.block _ (lt_of_heap e3) (neq_tag e3 hq (by decide))).trans e3, e4⟩
def exA : Ts := (newT 0 ⟨1, 0, 0, 1⟩ 1 100).upd 0 true
def exB : Ts := (newT 0 ⟨2, 0, 0, 2⟩ 1 100).upd 0 true
def exM : Mg := ⟨11, 0, 1, 1, 0, 0, 0, 0, 0, 0, 1, 0, 0, 1, 0, [1]⟩
theorem exA_out : exA.outB 0 1 0 = true := by kernel_rfl
theorem exA_msg : exA.outM 0 1 0 = exM := by kernel_rfl
theorem exB_in : exB.inC 0 exM = 0 := by kernel_rfl
def exB2 : Ts := exB.inT 0 exM 0
theorem exB_best : exB2.best 5 = ⟨⟨1, 0, 0, 1⟩, 0, 1, 0, 0⟩ := by kernel_rfl
theorem exB_roles : exB2.roles 5 = [2] := by kernel_rfl
theorem exA_root : ((exA.best 5).at_ == -1) = true := by kernel_rfl
/-- A fresh tree fits. -/
theorem newT_ok {dom : Int} {p : Pri} {n : Nat} {most : Int} (h : newB dom p n most = true) : (newT dom p n most).Ok := by
  unfold newB at h
  simp only [Bool.and_eq_true, decide_eq_true_eq] at h
  obtain ⟨_, ⟨_, h3⟩, h4, h5⟩ := h
  exact ⟨by show n ≤ 8; omega, h4, h5, fun k _ => ⟨by show (-9223372036854775808 : Int) ≤ 0; omega, by show (0 : Int) < 9223372036854775808; omega⟩, fun k _ x hx => by simp [newT, Kp.fresh] at hx⟩
theorem newT_fit {dom : Int} {p : Pri} {n : Nat} {most : Int} (hd : In64 dom) (hp : In64 p.one ∧ In64 p.cls ∧ In64 p.two ∧ In64 p.id) : (newT dom p n most).Fit := by
  have z0 : In64 0 := ⟨by decide, by decide⟩
  exact ⟨hd, hp, fun k _ => ⟨z0, z0, z0, z0⟩, fun k _ => ⟨by show (0 : Int) ≤ 0; omega, by show (0 : Int) ≤ 255; omega⟩, fun k _ => by simp [newT, Kp.fresh]⟩
theorem Ts.Ok.set {t : Ts} (h : t.Ok) (k : Nat) (p : Kp) (hw : In64 p.when_) (hp : ∀ x ∈ p.path, In64 x) : (t.set k p).Ok := by
  refine ⟨h.n8, h.m0, h.m1, fun i hi => ?_, fun i hi => ?_⟩
  · by_cases e : i = k
    · subst e; rw [show (t.set i p).ports i = p from up1_same _ _ _]; exact hw
    · rw [show (t.set k p).ports i = t.ports i from up1_other _ _ e]; exact h.whens i hi
  · by_cases e : i = k
    · subst e; rw [show (t.set i p).ports i = p from up1_same _ _ _]; exact hp
    · rw [show (t.set k p).ports i = t.ports i from up1_other _ _ e]; exact h.paths i hi
theorem Ts.Fit.set {t : Ts} (h : t.Fit) (k : Nat) (p : Kp) (hv : In64 p.vec.r.one ∧ In64 p.vec.r.cls ∧ In64 p.vec.r.two ∧ In64 p.vec.r.id) (hs : 0 ≤ p.vec.steps ∧ p.vec.steps ≤ 255) (hp : p.path.length ≤ 40) : (t.set k p).Fit := by
  refine ⟨h.dom, h.own, fun i hi => ?_, fun i hi => ?_, fun i hi => ?_⟩
  all_goals
    by_cases e : i = k
    · subst e
      rw [show (t.set i p).ports i = p from up1_same _ _ _]
      assumption
    · rw [show (t.set k p).ports i = t.ports i from up1_other _ _ e]
      first
        | exact h.vecs i hi
        | exact h.steps i hi
        | exact h.plen i hi
theorem fresh_in64 : In64 (Kp.fresh true).when_ := ⟨by decide, by decide⟩
theorem Ts.Ok.upd {t : Ts} (h : t.Ok) (at_ : Int) (up : Bool) : (t.upd at_ up).Ok := by
  unfold Ts.upd
  split
  · exact h.set _ _ ⟨by show (-9223372036854775808 : Int) ≤ 0; omega, by show (0 : Int) < 9223372036854775808; omega⟩ (fun x hx => by simp [Kp.fresh] at hx)
  · exact h
theorem Ts.Fit.upd {t : Ts} (h : t.Fit) (at_ : Int) (up : Bool) : (t.upd at_ up).Fit := by
  have z0 : In64 0 := ⟨by decide, by decide⟩
  unfold Ts.upd
  split
  · exact h.set _ _ ⟨z0, z0, z0, z0⟩ ⟨by show (0 : Int) ≤ 0; omega, by show (0 : Int) ≤ 255; omega⟩ (by simp [Kp.fresh])
  · exact h
/-- What is right of a message that is taken. -/
theorem chk_zero {m : Mg} (h : m.chk = 0) : (0 ≤ m.steps ∧ m.steps ≤ 255) ∧ m.path.length ≤ 32 := by
  unfold Mg.chk at h
  split at h
  · split at h
    · rename_i h1
      simp only [Bool.and_eq_true] at h1
      have h2 := winB_iff.1 h1.1.2 m.steps (by simp)
      split at h
      · cases h
      · exact ⟨h2, by omega⟩
    · cases h
  · cases h
theorem Ts.Ok.inT {t : Ts} (h : t.Ok) (at_ : Int) (m : Mg) (now : Int) (hn : In64 now) (hm : ∀ x ∈ m.path, In64 x) : (t.inT at_ m now).Ok := by
  unfold Ts.inT
  split
  · exact h.set _ _ hn hm
  · exact h
theorem inC_zero {t : Ts} {at_ : Int} {m : Mg} (h : t.inC at_ m = 0) : m.chk = 0 ∧ t.has at_ = true ∧ (t.ports at_.toNat).up = true := by
  unfold Ts.inC at h
  split at h
  · rename_i h1
    split at h
    · rename_i h2
      simp only [Bool.and_eq_true] at h2
      exact ⟨h1.2.2, h2⟩
    · exact absurd h (by decide)
  · exact absurd h (by decide)
theorem Ts.Fit.inT {t : Ts} (h : t.Fit) (at_ : Int) (m : Mg) (now : Int) (hm : m.Wf) : (t.inT at_ m now).Fit := by
  unfold Ts.inT
  split
  · rename_i h0
    obtain ⟨h1, h2⟩ := chk_zero (inC_zero h0).1
    obtain ⟨_, _, _, _, _, _, _, _, _, _, m1, m2, m3, m4, _⟩ := hm
    exact h.set _ _ ⟨m1, m2, m3, m4⟩ h1 (by show m.path.length ≤ 40; omega)
  · exact h

end Go.Proofs.Ytholemjbjmkpkaa

/- The laws of package tree: their head. -/
namespace Go.Proofs.Ytholemjbjmkpkaa
open Go.RowKit Go.Joins Go.Deep

theorem OutQ.yes {w w' : World} {om : Mg} {e : Ending} (h : OutQ w true om e w') : ∃ p c, e = .returned (.tuple #[.agg (MC om (.slice p om.path.length c)), .bool true]) ∧ OwnR C1 3 1 w.heap.size w' (.slice p om.path.length c) om.path ∧ Below w.heap.size w w' := by
  obtain ⟨hb, ⟨h, _⟩ | ⟨_, u, h, hu⟩⟩ := h
  · cases h
  · obtain ⟨p, c, rfl⟩ := hu.slice
    exact ⟨p, c, h, hu, hb⟩
theorem OutQ.no {w w' : World} {om : Mg} {e : Ending} (h : OutQ w false om e w') : e = .returned (.tuple #[.agg #[.int .i64 0, .int .i64 0, .int .i64 0, .int .i64 0, .int .i64 0, .int .i64 0, .int .i64 0, .int .i64 0, .int .i64 0, .int .i64 0, .int .i64 0, .int .i64 0, .int .i64 0, .int .i64 0, .int .i64 0, .slice none 0 0], .bool false]) ∧ Below w.heap.size w w' := by
  obtain ⟨hb, ⟨_, h⟩ | ⟨h, _⟩⟩ := h
  · exact ⟨h, hb⟩
  · cases h
theorem zero_in64 : In64 0 := ⟨by decide, by decide⟩
theorem small_in64 {x : Int} (h : 0 ≤ x) (h1 : x < 2147483648) : In64 x := ⟨by omega, by omega⟩
theorem exA_ok : exA.Ok := (newT_ok (by kernel_rfl)).upd _ _
theorem exB_ok : exB.Ok := (newT_ok (by kernel_rfl)).upd _ _
theorem exB2_ok : exB2.Ok := exB_ok.inT _ _ _ zero_in64 (by intro x hx; simp [exM] at hx; subst hx; exact small_in64 (by decide) (by decide))
theorem exA_fit : exA.Fit := (newT_fit zero_in64 ⟨small_in64 (by decide) (by decide), zero_in64, zero_in64, small_in64 (by decide) (by decide)⟩).upd _ _
theorem exM_wf : exM.Wf := ⟨small_in64 (by decide) (by decide), zero_in64, small_in64 (by decide) (by decide), small_in64 (by decide) (by decide), zero_in64, zero_in64, zero_in64, zero_in64, zero_in64, zero_in64, small_in64 (by decide) (by decide), zero_in64, zero_in64, small_in64 (by decide) (by decide), zero_in64, by intro x hx; simp [exM] at hx; subst hx; exact small_in64 (by decide) (by decide)⟩
/-- Two trees in a world that came of w. -/
structure HS (w W : World) (bA gA bB gB : Nat) (tA tB : Ts) : Prop where
  bel : Below w.heap.size w W
  ta : Tr W bA gA tA
  tb : Tr W bB gB tB
  la : w.heap.size ≤ gA
  lb : w.heap.size ≤ gB
  ne : gA ≠ gB
section
variable {w W W' : World} {bA gA bB gB : Nat} {tA tB t' : Ts}
theorem HS.below (h : HS w W bA gA bB gB tA tB) (hb : Below W.heap.size W W') : HS w W' bA gA bB gB tA tB := ⟨bTr h.bel hb, h.ta.below hb, h.tb.below hb, h.la, h.lb, h.ne⟩
theorem HS.setA (h : HS w W bA gA bB gB tA tB) (hl : LeaveT bA gA W t' W') : HS w W' bA gA bB gB t' tB :=
  ⟨hl.2.from_ h.bel h.la, hl.1, by obtain ⟨cs, h1⟩ := h.ta.tag; exact h.tb.other hl.2 h1 h.ne, h.la, h.lb, h.ne⟩
theorem HS.setB (h : HS w W bA gA bB gB tA tB) (hl : LeaveT bB gB W t' W') : HS w W' bA gA bB gB tA t' :=
  ⟨hl.2.from_ h.bel h.lb, by obtain ⟨cs, h1⟩ := h.tb.tag; exact h.ta.other hl.2 h1 (fun e => h.ne e.symm), hl.1, h.la, h.lb, h.ne⟩
end
theorem exA_new (W : World) : Calls Try.prog 22 #[.int .i64 0, .agg #[.int .i64 1, .int .i64 0, .int .i64 0, .int .i64 1], .int .i64 1, .int .i64 100] W fun e w' => ∃ b g, e = .returned (.tuple #[.pointer (some ⟨b, 0, none⟩), .int .i64 0]) ∧ Tr w' b g (newT 0 ⟨1, 0, 0, 1⟩ 1 100) ∧ W.heap.size ≤ b ∧ W.heap.size ≤ g ∧ Below W.heap.size W w' :=
  new_ok 0 ⟨1, 0, 0, 1⟩ 1 100 W (by kernel_rfl) zero_in64 ⟨small_in64 (by decide) (by decide), zero_in64, zero_in64, small_in64 (by decide) (by decide)⟩
theorem exB_new (W : World) : Calls Try.prog 22 #[.int .i64 0, .agg #[.int .i64 2, .int .i64 0, .int .i64 0, .int .i64 2], .int .i64 1, .int .i64 100] W fun e w' => ∃ b g, e = .returned (.tuple #[.pointer (some ⟨b, 0, none⟩), .int .i64 0]) ∧ Tr w' b g (newT 0 ⟨2, 0, 0, 2⟩ 1 100) ∧ W.heap.size ≤ b ∧ W.heap.size ≤ g ∧ Below W.heap.size W w' :=
  new_ok 0 ⟨2, 0, 0, 2⟩ 1 100 W (by kernel_rfl) zero_in64 ⟨small_in64 (by decide) (by decide), zero_in64, zero_in64, small_in64 (by decide) (by decide)⟩
theorem exA_outs {W : World} {b g : Nat} (h : Tr W b g exA) : Calls Try.prog 24 #[.pointer (some ⟨b, 0, none⟩), .int .i64 0, .int .i64 1, .int .i64 0] W fun e w' => ∃ pa pc, e = .returned (.tuple #[.agg #[.int .i64 11, .int .i64 0, .int .i64 1, .int .i64 1, .int .i64 0, .int .i64 0, .int .i64 0, .int .i64 0, .int .i64 0, .int .i64 0, .int .i64 1, .int .i64 0, .int .i64 0, .int .i64 1, .int .i64 0, .slice pa 1 pc], .bool true]) ∧ OwnR C1 3 1 W.heap.size w' (.slice pa 1 pc) [1] ∧ Below W.heap.size W w' := by
  refine (out_any h exA_ok exA_fit 0 1 0 zero_in64 (small_in64 (by decide) (by decide)) zero_in64).mono fun e w' hq => ?_
  rw [exA_out, exA_msg] at hq
  exact hq.yes
theorem exB_ins {W : World} {b g : Nat} {pa : Option Addr} {pc : Nat} (h : Tr W b g exB) (hu : LArg W (.slice pa 1 pc) [1]) : Calls Try.prog 27 #[.pointer (some ⟨b, 0, none⟩), .int .i64 0, .agg #[.int .i64 11, .int .i64 0, .int .i64 1, .int .i64 1, .int .i64 0, .int .i64 0, .int .i64 0, .int .i64 0, .int .i64 0, .int .i64 0, .int .i64 1, .int .i64 0, .int .i64 0, .int .i64 1, .int .i64 0, .slice pa 1 pc], .int .i64 0] W fun e w' => e = .returned (.int .i64 0) ∧ LeaveT b g W exB2 w' := by
  refine (in_any h exB_ok 0 exM (.slice pa 1 pc) 0 exM_wf hu (by decide)).mono fun e w' hq => ?_
  rw [exB_in] at hq
  exact hq
theorem exB_bests {W : World} {b g : Nat} (h : Tr W b g exB2) : Calls Try.prog 23 #[.pointer (some ⟨b, 0, none⟩), .int .i64 5] W fun e w' => ∃ q, e = .returned (.tuple #[.agg #[.int .i64 1, .int .i64 0, .int .i64 0, .int .i64 1, .int .i64 0, .int .i64 1, .int .i64 0, .int .i64 0], .slice (some ⟨q, 0, none⟩) 1 1]) ∧ W.heap.size ≤ q ∧ w'.heap[q]? = some (.cells #[.int .i64 2] 3 (0, 0)) ∧ Below W.heap.size W w' := by
  refine (best_any h exB2_ok 5 (small_in64 (by decide) (by decide))).mono fun e w' hq => ?_
  rw [exB_best, exB_roles] at hq
  exact hq
theorem exA_roots {W : World} {b g : Nat} (h : Tr W b g exA) : Calls Try.prog 26 #[.pointer (some ⟨b, 0, none⟩), .int .i64 5] W fun e w' => e = .returned (.bool true) ∧ Below W.heap.size W w' := by
  refine (root_any h exA_ok 5 (small_in64 (by decide) (by decide))).mono fun e w' hq => ?_
  rw [exA_root] at hq
  exact hq
theorem exB_roots {W : World} {b g : Nat} (h : Tr W b g exB2) : Calls Try.prog 26 #[.pointer (some ⟨b, 0, none⟩), .int .i64 5] W fun e w' => e = .returned (.bool false) ∧ Below W.heap.size W w' := by
  refine (root_any h exB2_ok 5 (small_in64 (by decide) (by decide))).mono fun e w' hq => ?_
  rw [exB_best] at hq
  exact hq
set_option maxHeartbeats 2000000 in
theorem head20_ret : Ret 21 #[] (.bool true) := fun w => by
  have HNA := Lib.hid (fun W => exA_new W)
  have HNB := Lib.hid (fun W => exB_new W)
  have HUp := Lib.hid (fun (W : World) (b g : Nat) (t : Ts) (h : Tr W b g t) => up_any h 0 true)
  have HO := Lib.hid (fun (W : World) (b g : Nat) (h : Tr W b g exA) => exA_outs h)
  have HI := Lib.hid (fun (W : World) (b g : Nat) (pa : Option Addr) (pc : Nat) (h : Tr W b g exB) (hu : LArg W (.slice pa 1 pc) [1]) => exB_ins h hu)
  have HBs := Lib.hid (fun (W : World) (b g : Nat) (h : Tr W b g exB2) => exB_bests h)
  have HRA := Lib.hid (fun (W : World) (b g : Nat) (h : Tr W b g exA) => exA_roots h)
  have HRB := Lib.hid (fun (W : World) (b g : Nat) (h : Tr W b g exB2) => exB_roots h)
  go_enter Try.func21, Try.ntmps21
  go_wp2_with (first
    | (go_at_call 22; (with_reducible refine (HNA.out _).mono ?_); rintro e w1 ⟨bA, gA, rfl, hta, _, hga, hb1⟩; have HTA := Lib.hid hta; have HB1 := Lib.hid hb1; have HgA := Lib.hid hga; clear hta hb1 hga)
    | (go_at_call 22; (with_reducible refine (HNB.out _).mono ?_); rintro e w2 ⟨bB, gB, rfl, htb, _, hgb, hb2⟩; have HS0 : Hid (HS w w2 bA gA bB gB _ _) := Lib.hid ⟨bTr HB1.out hb2, HTA.out.below hb2, htb, HgA.out, Nat.le_trans HB1.out.size hgb, fun e => by have := HTA.out.glt; omega⟩; clear htb hb2 hgb HTA HB1 HgA)
    | (go_at_call 25; (with_reducible refine (HUp.out _ _ _ _ HS0.out.ta).mono ?_); rintro e w3 ⟨rfl, hl⟩; have HS1 := Lib.hid (HS0.out.setA hl); clear hl)
    | (go_at_call 25; (with_reducible refine (HUp.out _ _ _ _ HS1.out.tb).mono ?_); rintro e w4 ⟨rfl, hl⟩; have HS2 : Hid (HS w w4 bA gA bB gB exA exB) := Lib.hid (HS1.out.setB hl); clear hl)
    | (go_at_call 24; (with_reducible refine (HO.out _ _ _ HS2.out.ta).mono ?_); rintro e w5 ⟨pa, pc, rfl, hu, hb⟩; have HS3 := Lib.hid ((HS2.out.below hb).below (bAl (bRef w5) (.cells #[.int .i64 11, .int .i64 0, .int .i64 1, .int .i64 1, .int .i64 0, .int .i64 0, .int .i64 0, .int .i64 0, .int .i64 0, .int .i64 0, .int .i64 1, .int .i64 0, .int .i64 0, .int .i64 1, .int .i64 0, .slice pa 1 pc] 58))); have HU := Lib.hid (((own_pa hu).below (bAl (bRef w5) (.cells #[.int .i64 11, .int .i64 0, .int .i64 1, .int .i64 1, .int .i64 0, .int .i64 0, .int .i64 0, .int .i64 0, .int .i64 0, .int .i64 0, .int .i64 1, .int .i64 0, .int .i64 0, .int .i64 1, .int .i64 0, .slice pa 1 pc] 58))).larg (by intro x hx; simp at hx; subst hx; exact small_in64 (by decide) (by decide))); clear hu hb)
    | ((with_reducible refine at_storeM ?_); refine wpList_storeNW rfl _ _ _ rfl w5.heap.size rfl #[.int .i64 11, .int .i64 0, .int .i64 1, .int .i64 1, .int .i64 0, .int .i64 0, .int .i64 0, .int .i64 0, .int .i64 0, .int .i64 0, .int .i64 1, .int .i64 0, .int .i64 0, .int .i64 1, .int .i64 0, .slice pa 1 pc] _ _ rfl rfl (by simp [Value.oneCell']) (by kernel_rfl) rfl ?_)
    | ((with_reducible refine at_loadM ?_); refine wpList_loadW rfl _ _ rfl w5.heap.size 0 rfl #[.int .i64 11, .int .i64 0, .int .i64 1, .int .i64 1, .int .i64 0, .int .i64 0, .int .i64 0, .int .i64 0, .int .i64 0, .int .i64 0, .int .i64 1, .int .i64 0, .int .i64 0, .int .i64 1, .int .i64 0, .slice pa 1 pc] _ (range_whole (heap_alloc_new w5 _)) Try.underlying58 rfl (by kernel_rfl) ?_)
    | (go_at_call 27; (with_reducible refine (HI.out _ _ _ _ _ HS3.out.tb HU.out).mono ?_); rintro e w6 ⟨rfl, hl⟩; have HS4 := Lib.hid (HS3.out.setB hl); clear hl)
    | (go_at_call 23; (with_reducible refine (HBs.out _ _ _ HS4.out.tb).mono ?_); rintro e w7 ⟨q, rfl, hq, hrow, hb⟩; have k0 : w7.cell? ⟨q, 0, none⟩ = some (.int .i64 2) := cell_of_row _ _ 0 _ _ _ hrow; have hql : q < w7.heap.size := lt_of_heap hrow; have HS5 := Lib.hid ((HS4.out.below hb).below (bAl (bRef w7) (.cells #[.int .i64 1, .int .i64 0, .int .i64 0, .int .i64 1, .int .i64 0, .int .i64 1, .int .i64 0, .int .i64 0] 25))); clear hb hq hrow)
    | (go_at_call 26; (with_reducible refine (HRA.out _ _ _ HS5.out.ta).mono ?_); rintro e w8 ⟨rfl, hb⟩; have HS6 := Lib.hid (HS5.out.below hb); clear hb)
    | (go_at_call 26; (with_reducible refine (HRB.out _ _ _ HS6.out.tb).mono ?_); rintro e w9 ⟨rfl, hb⟩; have HS7 := Lib.hid (HS6.out.below hb); clear hb))
  go_ret
  exact ⟨rfl, HS7.out.bel⟩

end Go.Proofs.Ytholemjbjmkpkaa

/- Package tree: Out of no tree; the law's has. -/
namespace Go.Proofs.Ytholemjbjmkpkaa
open Go.RowKit Go.Joins Go.Deep

set_option maxHeartbeats 1000000 in
theorem out_nil (at_ seq now : Int) (w : World) : Calls Try.prog 24 #[.pointer none, .int .i64 at_, .int .i64 seq, .int .i64 now] w fun e w' => e = .returned (.tuple #[.agg #[.int .i64 0, .int .i64 0, .int .i64 0, .int .i64 0, .int .i64 0, .int .i64 0, .int .i64 0, .int .i64 0, .int .i64 0, .int .i64 0, .int .i64 0, .int .i64 0, .int .i64 0, .int .i64 0, .int .i64 0, .slice none 0 0], .bool false]) ∧ Below w.heap.size w w' := by
  have HBe := Lib.hid (fun W => best_nil now W)
  have HHs := Lib.hid (fun W => has_nil at_ W)
  unfold VC nilV at HBe
  go_enter Try.func24, Try.ntmps24
  go_wp2_with (first
    | (go_at_call 23; (with_reducible refine (HBe.out _).mono ?_); rintro e w1 ⟨rfl, hb⟩; have HB1 := Lib.hid (bTr (bAl (bRef w) _) hb); have HR1 := Lib.hid ((hb.block w.heap.size (by simp)).trans (heap_alloc_new w _)); clear hb)
    | (go_at_call 36; (with_reducible refine (HHs.out _).mono ?_); rintro e w2 ⟨rfl, rfl⟩)
    | ((with_reducible refine at_buildM ?_); refine wpList_buildG rfl _ _ rfl #[.int .i64 0, .int .i64 0, .int .i64 0, .int .i64 0, .int .i64 0, .int .i64 0, .int .i64 0, .int .i64 0, .int .i64 0, .int .i64 0, .int .i64 0, .int .i64 0, .int .i64 0, .int .i64 0, .int .i64 0, .slice none 0 0] (by simp only [List.map_toArray, List.map_nil]; exact Try.builtZ) ?_)
    | ((with_reducible refine at_storeM ?_); refine wpList_store_row rfl _ _ _ rfl _ #[.int .i64 0, .int .i64 0, .int .i64 0, .int .i64 0, .int .i64 0, .int .i64 0, .int .i64 0, .int .i64 0, .int .i64 0, .int .i64 0, .int .i64 0, .int .i64 0, .int .i64 0, .int .i64 0, .int .i64 0, .slice none 0 0] rfl rfl _ _ (((bAl (bRef w1) _).block _ (lt_of_heap HR1.out)).trans HR1.out) (by kernel_rfl) rfl (by simp [Value.oneCell']) ?_))
  refine bodyW2 rfl w.heap.size #[.int .i64 0, .int .i64 0, .int .i64 0, .int .i64 0, .int .i64 0, .int .i64 0, .int .i64 0, .int .i64 0, .int .i64 0, .int .i64 0, .int .i64 0, .int .i64 0, .int .i64 0, .int .i64 0, .int .i64 0, .slice none 0 0] (.bool false) _ rfl rfl (setRow_heap _ _ _ _ _ _ (((bAl (bRef w1) _).block _ (lt_of_heap HR1.out)).trans HR1.out)) Try.underlying58 rfl (by kernel_rfl) rfl ?_
  exact ⟨rfl, bRow (bAl HB1.out _) _ (Nat.le_refl _) _⟩
/-- The law's has. -/
theorem rhas_any {u : Value} {xs : List Int} {w : World} (x : Int) (h : LArg w u xs) (hl : xs.length ≤ 140737488355328) : Calls Try.prog 29 #[u, .int .i64 x] w fun e w' => e = .returned (.bool (decide (x ∈ xs))) ∧ w = w' := by
  obtain ⟨p, c, rfl⟩ := h.slice
  obtain ⟨n, hn⟩ : ∃ n, n = xs.length := ⟨_, rfl⟩
  rw [← hn] at hl h ⊢
  have Hn := Lib.hid hn
  have HA := Lib.hid h
  clear hn h
  go_enter Try.func29, Try.ntmps29
  go_wp2_with fail
  go_loop [9] (fun iv => IxRel x xs iv) (fun iv => n - (intOf iv).toNat)
  case atStart => exact ⟨0, by omega, rfl, fun j hj => by omega⟩
  case round =>
    obtain ⟨k, hk, rfl, hall⟩ := hrel
    have Hall := Lib.hid hall
    rw [← Hn.out] at hk
    clear hall
    rcases Nat.lt_or_ge k n with g | g
    · have hd : decide ((k : Int) < (n : Int)) = true := decide_eq_true (by omega)
      have hin : k < xs.length := by rw [← Hn.out]; exact g
      rcases HA.out.2 with ⟨e0, _⟩ | ⟨h0, b, o, c', e1, hc, hr⟩
      · exfalso; rw [e0] at hin; simp at hin
      injection e1 with e1 e2 e3
      subst e1
      have hcell := (hr h0).2 k hin
      have hir : IntKind.i64.wrap (k : Int) = (k : Int) := by rw [IntKind.wrap_i64]; omega
      obtain ⟨y, hy⟩ : ∃ y, y = xs.getD k 0 := ⟨_, rfl⟩
      rw [← hy] at hcell
      have HY := Lib.hid hy
      clear hy e2 e3 hc hr h0
      by_cases hxy : x = y
      · have hb : (y == x) = true := by rw [beq_iff_eq]; exact hxy.symm
        have HM : Hid (decide (x ∈ xs) = true) := Lib.hid (decide_eq_true (by rw [hxy, HY.out, List.getD_eq_getElem?_getD, List.getElem?_eq_getElem hin]; exact List.getElem_mem hin))
        clear hxy hin
        go_wp2_with fail
        go_ret
        exact ⟨by rw [HM.out]; rfl, rfl⟩
      · have hb : (y == x) = false := by rw [beq_eq_false_iff_ne]; exact fun e => hxy e.symm
        have HX := Lib.hid hxy
        clear hxy hin
        go_wp2_with fail
        go_round
        case rel => exact ⟨k + 1, by rw [← Hn.out]; omega, by go_num, fun j hj => by
          rcases Nat.lt_or_ge j k with h | h
          · exact Hall.out j h
          · obtain rfl : j = k := by omega
            rw [← HY.out]; exact fun e => HX.out e.symm⟩
        case measure => simp [intOf]; omega
    · obtain rfl : k = n := by omega
      have hd : decide ((k : Int) < (k : Int)) = false := decide_eq_false (by omega)
      go_wp2_with fail
      go_ret
      refine ⟨?_, rfl⟩
      rw [decide_eq_false (p := x ∈ xs)]
      · rfl
      intro h
      obtain ⟨j, hj, e⟩ := List.mem_iff_getElem.1 h
      refine absurd ?_ (Hall.out j (by rw [Hn.out]; exact hj))
      rw [List.getD_eq_getElem?_getD, List.getElem?_eq_getElem hj, ← e]
      rfl

end Go.Proofs.Ytholemjbjmkpkaa

/- The law's own list of what ports have heard (TreeRuns): in memory, and beside the tree. -/
namespace Go.Proofs.Ytholemjbjmkpkaa
open Go.RowKit Go.Joins Go.Deep

/-- What a port has heard, as the law keeps it. -/
structure Ke where
  up : Bool
  ok : Bool
  row : Vc
  path : List Int
  when_ : Int
def KeC (k : Ke) (u : Value) : Array Value := #[.bool k.up, .bool k.ok, .int .i64 k.row.r.one, .int .i64 k.row.r.cls, .int .i64 k.row.r.two, .int .i64 k.row.r.id, .int .i64 k.row.steps, .int .i64 k.row.from_, .int .i64 k.row.port, .int .i64 k.row.at_, u, .int .i64 k.when_]
theorem KeC_len (k : Ke) (u : Value) : (KeC k u).toList.length = 12 := rfl
def Ke.fresh (up : Bool) (when_ : Int) : Ke := ⟨up, false, ⟨⟨0, 0, 0, 0⟩, 0, 0, 0, 0⟩, [], when_⟩
structure KsI (w : World) (q n : Nat) (F : Nat → Ke) (us : Nat → Value) : Prop where
  row : ∃ cs, w.heap[q]? = some (.cells cs 68 (0, 0)) ∧ cs.size = n * 12 ∧ ∀ k, k < n → ∀ j x, (KeC (F k) (us k)).toList[j]? = some x → cs[k * 12 + j]? = some x
  path : ∀ k, k < n → PA w (us k) (F k).path
def Ks (w : World) (q n : Nat) (F : Nat → Ke) : Prop := ∃ us, KsI w q n F us
section
variable {w w' : World} {q n : Nat} {F : Nat → Ke} {us : Nat → Value}
theorem KsI.keep (h : KsI w q n F us) (hk : ∀ (k : Nat) (cs : Array Value) (ty : TypeId) (fr : Nat × Nat), w.heap[k]? = some (.cells cs ty fr) → ty = 3 ∨ k = q → w'.heap[k]? = w.heap[k]?) : KsI w' q n F us := by
  obtain ⟨cs, h1, h2, h3⟩ := h.row
  exact ⟨⟨cs, (hk _ _ _ _ h1 (.inr rfl)).trans h1, h2, h3⟩, fun k hk' => (h.path k hk').keep fun i cs fr hi => hk i cs _ fr hi (.inl rfl)⟩
theorem KsI.below (h : KsI w q n F us) (hb : Below w.heap.size w w') : KsI w' q n F us := h.keep fun k _ _ _ hk _ => hb.block k (lt_of_heap hk)
theorem Ks.below (h : Ks w q n F) (hb : Below w.heap.size w w') : Ks w' q n F := by obtain ⟨us, h⟩ := h; exact ⟨us, h.below hb⟩
theorem Ks.tag (h : Ks w q n F) : ∃ cs, w.heap[q]? = some (.cells cs 68 (0, 0)) := by
  obtain ⟨us, h⟩ := h
  obtain ⟨cs, h1, _⟩ := h.row
  exact ⟨cs, h1⟩
/-- A tree's ports turn. -/
theorem Ks.other (h : Ks w q n F) {g : Nat} (hb : ButB g w w') {cs : Array Value} {fr : Nat × Nat} (hg : w.heap[g]? = some (.cells cs 91 fr)) : Ks w' q n F := by
  obtain ⟨us, h⟩ := h
  obtain ⟨c, h1, _⟩ := h.row
  refine ⟨us, h.keep fun k cs' ty fr' hk ht => hb.block k (lt_of_heap hk) ?_⟩
  rcases ht with rfl | rfl
  · exact neq_tag hk hg (by decide)
  · exact neq_tag h1 hg (by decide)
theorem KsI.port (h : KsI w q n F us) {k : Nat} (hk : k < n) : w.rangeAt q (k * 12) (KeC (F k) (us k)).toList := by
  obtain ⟨cs, h1, h2, h3⟩ := h.row
  intro j x hj
  rw [cell_of_row _ _ _ _ _ _ h1]
  exact h3 k hk j x hj
/-- So many of a port's cells may be written. -/
theorem KsI.there (h : KsI w q n F us) {k o m : Nat} (hk : k < n) (ho : o + m ≤ 12) : w.there q (k * 12 + o) m := by
  obtain ⟨cs, h1, h2, h3⟩ := h.row
  intro j hj
  have hle : (k + 1) * 12 ≤ n * 12 := Nat.mul_le_mul_right 12 hk
  refine ⟨?_, frozen_of_row _ _ _ _ _ h1⟩
  rw [cell_of_row _ _ _ _ _ _ h1, Array.getElem?_eq_getElem (by omega)]
  rfl
/-- Some of a port's cells turn: what comes of them. -/
theorem KsI.set (h : KsI w q n F us) {k : Nat} (hk : k < n) (p : Ke) (u : Value) (hu : PA w u p.path) (o : Nat) (l : List Value) (ho : o + l.length ≤ 12)
    (hin : ∀ j x, (KeC p u).toList[j]? = some x → (o ≤ j ∧ j < o + l.length ∧ l[j - o]? = some x) ∨ ((j < o ∨ o + l.length ≤ j) ∧ (KeC (F k) (us k)).toList[j]? = some x)) : KsI (w.setCells q (k * 12 + o) l) q n (up1 F k p) (up1 us k u) := by
  obtain ⟨cs, h1, h2, h3⟩ := h.row
  have hb := (ButB.refl q w).sets l (k * 12 + o)
  have keep : ∀ (i : Nat) (c : Array Value) (fr : Nat × Nat), w.heap[i]? = some (.cells c 3 fr) → (w.setCells q (k * 12 + o) l).heap[i]? = w.heap[i]? := fun i c fr hi => hb.block i (lt_of_heap hi) (neq_tag hi h1 (by decide))
  refine ⟨⟨_, setCells_heap _ _ _ _ _ _ h1, by rw [setL_size]; exact h2, fun i hi j x hj => ?_⟩, fun i hi => ?_⟩
  · have hj12 : j < 12 := by have := (List.getElem?_eq_some_iff.1 hj).1; rwa [KeC_len] at this
    have hle : (i + 1) * 12 ≤ n * 12 := Nat.mul_le_mul_right 12 hi
    by_cases e : i = k
    · subst e
      rw [up1_same, up1_same] at hj
      rcases hin j x hj with ⟨a1, a2, a3⟩ | ⟨a1, a2⟩
      · have := setL_in l cs (i * 12 + o) (j - o) x (by omega) a3
        rwa [show i * 12 + o + (j - o) = i * 12 + j by omega] at this
      · rw [setL_out _ _ _ _ (by omega)]
        exact h3 i hi j x a2
    · rw [up1_other _ _ e, up1_other _ _ e] at hj
      rw [setL_out _ _ _ _ (by rcases Nat.lt_or_gt_of_ne e with g | g <;> omega)]
      exact h3 i hi j x hj
  · by_cases e : i = k
    · subst e
      rw [up1_same, up1_same]
      exact hu.keep keep
    · rw [up1_other _ _ e, up1_other _ _ e]
      exact (h.path i hi).keep keep
end
/-- The law's list and the tree say the same. -/
structure Twin (k : Ke) (p : Kp) : Prop where
  up : k.up = p.up
  ok : k.ok = p.heard
  row : k.row = p.vec
  path : k.path = p.path
  when_ : p.heard = true → k.when_ = p.when_
def Ke.hd (k : Ke) (now most : Int) : Hd := ⟨k.up, k.ok && (decide (k.when_ ≤ now) && decide (now - k.when_ ≤ most)), k.row⟩
theorem Twin.hd {k : Ke} {p : Kp} (h : Twin k p) (now most : Int) : k.hd now most = ⟨p.up, p.holds now most, p.vec⟩ := by
  unfold Ke.hd Kp.holds
  rw [h.up, h.ok, h.row]
  cases hh : p.heard with
  | false => rfl
  | true => rw [h.when_ hh]
theorem Twin.start : Twin (Ke.fresh false 0) (Kp.fresh false) := ⟨rfl, rfl, rfl, rfl, fun _ => rfl⟩
theorem Twin.turn (up : Bool) (x : Int) : Twin (Ke.fresh up x) (Kp.fresh up) := ⟨rfl, rfl, rfl, rfl, fun h => by cases h⟩
theorem Twin.heard (m : Mg) (now : Int) : Twin ⟨true, true, ⟨⟨m.one, m.cls, m.two, m.id⟩, m.steps, m.src, m.port, 0⟩, m.path, now⟩ (heardK m now) := ⟨rfl, rfl, rfl, rfl, fun _ => rfl⟩
/-- What layer 19 is handed is the same of both. -/
theorem twin_F {t : Ts} {F : Nat → Ke} (h : ∀ k, k < t.n → Twin (F k) (t.ports k)) (now : Int) : ∀ k, k < t.n → (F k).hd now t.most = t.F now k := fun k hk => (h k hk).hd now t.most
theorem chs_same (p : Pri) {F G : Nat → Hd} : ∀ n, (∀ k, k < n → F k = G k) → chs p F n = chs p G n
  | 0, _ => rfl
  | n + 1, h => by rw [chs_succ, chs_succ, chs_same p n (fun k hk => h k (by omega)), h n (by omega)]
theorem twin_best {t : Ts} {F : Nat → Ke} (h : ∀ k, k < t.n → Twin (F k) (t.ports k)) (now : Int) : chs t.own (fun k => (F k).hd now t.most) t.n = t.best now := chs_same t.own t.n (twin_F h now)
theorem twin_roles {t : Ts} {F : Nat → Ke} (h : ∀ k, k < t.n → Twin (F k) (t.ports k)) (now : Int) : rolesL t.own.id (t.best now) (fun k => (F k).hd now t.most) t.n = t.roles now := by
  unfold Ts.roles
  refine List.ext_getElem? fun i => ?_
  rcases Nat.lt_or_ge i t.n with hi | hi
  · unfold rolesL
    simp only [List.getElem?_map, List.getElem?_range hi, Option.map_some]
    rw [twin_F h now i hi]
  · rw [List.getElem?_eq_none (by rw [rolesL_len]; exact hi), List.getElem?_eq_none (by rw [rolesL_len]; exact hi)]
/-- After a step the two are the same again. -/
theorem Twin.set {t : Ts} {F : Nat → Ke} (h : ∀ k, k < t.n → Twin (F k) (t.ports k)) (i : Nat) {k : Ke} {p : Kp} (hk : Twin k p) : ∀ j, j < (t.set i p).n → Twin (up1 F i k j) ((t.set i p).ports j) := fun j hj => by
  by_cases e : j = i
  · subst e
    rw [up1_same, show (t.set j p).ports j = p from up1_same _ _ _]
    exact hk
  · rw [up1_other _ _ e, show (t.set i p).ports j = t.ports j from up1_other _ _ e]
    exact h j hj

end Go.Proofs.Ytholemjbjmkpkaa
