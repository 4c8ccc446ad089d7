/- The laws of package tree: their head, the document's example. -/
import Derived.Test.YtihddpoaemhlnaaTrOut
namespace Go.Proofs.Ytihddpoaemhlnaa
open Go.RowKit Go.Joins Go.Deep

theorem Tr.tag {w : World} {b g : Nat} {t : Ts} (h : Tr w b g t) : ∃ cs, w.heap[g]? = some (.cells cs 91 (0, 0)) := by
  obtain ⟨us, h⟩ := h
  obtain ⟨cs, h1, _⟩ := h.row
  exact ⟨cs, h1⟩
theorem Tr.apart {w w' : World} {b g q b' : Nat} {t t' : Ts} (h : Tr w b g t) (hb : ButB q w w') (hq : Tr w b' q t') (hn : q ≠ g) : Tr w' b g t := by
  obtain ⟨cs, h1⟩ := hq.tag
  exact h.other hb h1 hn
theorem ButB.from_ {q : Nat} {w0 w w' : World} (h : ButB q w w') (h0 : Below w0.heap.size w0 w) (hq : w0.heap.size ≤ q) : Below w0.heap.size w0 w' := h0.trans (h.below hq h0.size)
theorem Tr.glt {w : World} {b g : Nat} {t : Ts} (h : Tr w b g t) : g < w.heap.size := by obtain ⟨cs, h1⟩ := h.tag; exact lt_of_heap h1
theorem OwnR.but {w w' : World} {B q : Nat} {v : Value} {xs : List Int} (h : OwnR C1 3 1 B w v xs) (hb : ButB q w w') {cs : Array Value} (hq : w.heap[q]? = some (.cells cs 91 (0, 0))) : OwnR C1 3 1 B w' v xs := by
  refine ⟨h.1, ?_⟩
  rcases h.2 with h | ⟨b, cap, cur, e1, e2, e3, e4⟩
  · exact .inl h
  · exact .inr ⟨b, cap, cur, e1, e2, (hb.block _ (lt_of_heap e3) (neq_tag e3 hq (by decide))).trans e3, e4⟩
def exA : Ts := (newT 0 ⟨1, 0, 0, 1⟩ 1 100).upd 0 true
def exB : Ts := (newT 0 ⟨2, 0, 0, 2⟩ 1 100).upd 0 true
def exM : Mg := ⟨11, 0, 1, 1, 0, 0, 0, 0, 0, 0, 1, 0, 0, 1, 0, [1]⟩
theorem exA_out : exA.outB 0 1 0 = true := by kernel_rfl
theorem exA_msg : exA.outM 0 1 0 = exM := by kernel_rfl
theorem exB_in : exB.inC 0 exM = 0 := by kernel_rfl
def exB2 : Ts := exB.inT 0 exM 0
theorem exB_best : exB2.best 5 = ⟨⟨1, 0, 0, 1⟩, 0, 1, 0, 0⟩ := by kernel_rfl
theorem exB_roles : exB2.roles 5 = [2] := by kernel_rfl
theorem exA_root : ((exA.best 5).at_ == -1) = true := by kernel_rfl
/-- A fresh tree fits. -/
theorem newT_ok {dom : Int} {p : Pri} {n : Nat} {most : Int} (h : newB dom p n most = true) : (newT dom p n most).Ok := by
  unfold newB at h
  simp only [Bool.and_eq_true, decide_eq_true_eq] at h
  obtain ⟨_, ⟨_, h3⟩, h4, h5⟩ := h
  exact ⟨by show n ≤ 8; omega, h4, h5, fun k _ => ⟨by show (-9223372036854775808 : Int) ≤ 0; omega, by show (0 : Int) < 9223372036854775808; omega⟩, fun k _ x hx => by simp [newT, Kp.fresh] at hx⟩
theorem newT_fit {dom : Int} {p : Pri} {n : Nat} {most : Int} (hd : In64 dom) (hp : In64 p.one ∧ In64 p.cls ∧ In64 p.two ∧ In64 p.id) : (newT dom p n most).Fit := by
  have z0 : In64 0 := ⟨by decide, by decide⟩
  exact ⟨hd, hp, fun k _ => ⟨z0, z0, z0, z0⟩, fun k _ => ⟨by show (0 : Int) ≤ 0; omega, by show (0 : Int) ≤ 255; omega⟩, fun k _ => by simp [newT, Kp.fresh]⟩
theorem Ts.Ok.set {t : Ts} (h : t.Ok) (k : Nat) (p : Kp) (hw : In64 p.when_) (hp : ∀ x ∈ p.path, In64 x) : (t.set k p).Ok := by
  refine ⟨h.n8, h.m0, h.m1, fun i hi => ?_, fun i hi => ?_⟩
  · by_cases e : i = k
    · subst e; rw [show (t.set i p).ports i = p from up1_same _ _ _]; exact hw
    · rw [show (t.set k p).ports i = t.ports i from up1_other _ _ e]; exact h.whens i hi
  · by_cases e : i = k
    · subst e; rw [show (t.set i p).ports i = p from up1_same _ _ _]; exact hp
    · rw [show (t.set k p).ports i = t.ports i from up1_other _ _ e]; exact h.paths i hi
theorem Ts.Fit.set {t : Ts} (h : t.Fit) (k : Nat) (p : Kp) (hv : In64 p.vec.r.one ∧ In64 p.vec.r.cls ∧ In64 p.vec.r.two ∧ In64 p.vec.r.id) (hs : 0 ≤ p.vec.steps ∧ p.vec.steps ≤ 255) (hp : p.path.length ≤ 40) : (t.set k p).Fit := by
  refine ⟨h.dom, h.own, fun i hi => ?_, fun i hi => ?_, fun i hi => ?_⟩
  all_goals
    by_cases e : i = k
    · subst e
      rw [show (t.set i p).ports i = p from up1_same _ _ _]
      assumption
    · rw [show (t.set k p).ports i = t.ports i from up1_other _ _ e]
      first
        | exact h.vecs i hi
        | exact h.steps i hi
        | exact h.plen i hi
theorem fresh_in64 : In64 (Kp.fresh true).when_ := ⟨by decide, by decide⟩
theorem Ts.Ok.upd {t : Ts} (h : t.Ok) (at_ : Int) (up : Bool) : (t.upd at_ up).Ok := by
  unfold Ts.upd
  split
  · exact h.set _ _ ⟨by show (-9223372036854775808 : Int) ≤ 0; omega, by show (0 : Int) < 9223372036854775808; omega⟩ (fun x hx => by simp [Kp.fresh] at hx)
  · exact h
theorem Ts.Fit.upd {t : Ts} (h : t.Fit) (at_ : Int) (up : Bool) : (t.upd at_ up).Fit := by
  have z0 : In64 0 := ⟨by decide, by decide⟩
  unfold Ts.upd
  split
  · exact h.set _ _ ⟨z0, z0, z0, z0⟩ ⟨by show (0 : Int) ≤ 0; omega, by show (0 : Int) ≤ 255; omega⟩ (by simp [Kp.fresh])
  · exact h
/-- What is right of a message that is taken. -/
theorem chk_zero {m : Mg} (h : m.chk = 0) : (0 ≤ m.steps ∧ m.steps ≤ 255) ∧ m.path.length ≤ 32 := by
  unfold Mg.chk at h
  split at h
  · split at h
    · rename_i h1
      simp only [Bool.and_eq_true] at h1
      have h2 := winB_iff.1 h1.1.2 m.steps (by simp)
      split at h
      · cases h
      · exact ⟨h2, by omega⟩
    · cases h
  · cases h
theorem Ts.Ok.inT {t : Ts} (h : t.Ok) (at_ : Int) (m : Mg) (now : Int) (hn : In64 now) (hm : ∀ x ∈ m.path, In64 x) : (t.inT at_ m now).Ok := by
  unfold Ts.inT
  split
  · exact h.set _ _ hn hm
  · exact h
theorem inC_zero {t : Ts} {at_ : Int} {m : Mg} (h : t.inC at_ m = 0) : m.chk = 0 ∧ t.has at_ = true ∧ (t.ports at_.toNat).up = true := by
  unfold Ts.inC at h
  split at h
  · rename_i h1
    split at h
    · rename_i h2
      simp only [Bool.and_eq_true] at h2
      exact ⟨h1.2.2, h2⟩
    · exact absurd h (by decide)
  · exact absurd h (by decide)
theorem Ts.Fit.inT {t : Ts} (h : t.Fit) (at_ : Int) (m : Mg) (now : Int) (hm : m.Wf) : (t.inT at_ m now).Fit := by
  unfold Ts.inT
  split
  · rename_i h0
    obtain ⟨h1, h2⟩ := chk_zero (inC_zero h0).1
    obtain ⟨_, _, _, _, _, _, _, _, _, _, m1, m2, m3, m4, _⟩ := hm
    exact h.set _ _ ⟨m1, m2, m3, m4⟩ h1 (by show m.path.length ≤ 40; omega)
  · exact h

end Go.Proofs.Ytihddpoaemhlnaa
