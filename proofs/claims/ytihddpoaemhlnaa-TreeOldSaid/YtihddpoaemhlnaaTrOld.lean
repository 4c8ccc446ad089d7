/- What was heard grows old, in plain numbers. -/
import Derived.Test.YtihddpoaemhlnaaTrHd
import Derived.Test.YtihddpoaemhlnaaBtLaw
namespace Go.Proofs.Ytihddpoaemhlnaa
open Go.RowKit Go.Joins Go.Deep

def oldO : Pri := ⟨9, 0, 0, 1099511627776⟩
def oldM (m : Mg) : Mg := ⟨11, 0, m.seq, m.src, m.port, m.corr, m.time, m.tw, m.tp, m.rate, m.one, m.cls, m.two, m.id, m.steps, m.path⟩
def oldT (most : Int) : Ts := newT 0 oldO 2 most
def oldT1 (most : Int) : Ts := (oldT most).upd 1 true
def oldT2 (most : Int) (m : Mg) : Ts := (oldT1 most).set 1 (heardK (oldM m) 0)
def oldT4 (most : Int) (m : Mg) : Ts := ((oldT2 most m).upd 1 false).upd 1 true
theorem oldO_in : In64 oldO.one ∧ In64 oldO.cls ∧ In64 oldO.two ∧ In64 oldO.id := ⟨small_in64 (by decide) (by decide), zero_in64, zero_in64, ⟨by decide, by decide⟩⟩
theorem old_new {most : Int} (h0 : 1 ≤ most) (h1 : most ≤ 65536) : newB 0 oldO ((2 : Nat) : Int) most = true := by
  unfold newB
  rw [show (winB 127 [0] && oldO.right) = true by kernel_rfl, Bool.true_and, Bool.and_eq_true]
  exact ⟨by decide, decide_eq_true ⟨h0, by omega⟩⟩
theorem oldM_wf {m : Mg} (h : m.Wf) : (oldM m).Wf := by
  obtain ⟨_, _, h2⟩ := h
  exact ⟨small_in64 (by show (0 : Int) ≤ 11; omega) (by show (11 : Int) < 2147483648; omega), zero_in64, h2⟩
theorem old_in0 (most : Int) (m : Mg) : (oldT most).inC 1 (oldM m) ≠ 0 := by
  unfold Ts.inC
  split
  · rw [if_neg (by rw [show ((oldT most).has 1 && ((oldT most).ports (1 : Int).toNat).up) = false by kernel_rfl]; decide)]
    decide
  · decide
theorem old_inT0 (most : Int) (m : Mg) : (oldT most).inT 1 (oldM m) 0 = oldT most := by
  unfold Ts.inT
  rw [if_neg (old_in0 most m)]
theorem old_inT1 {most : Int} {m : Mg} (h : (oldT1 most).inC 1 (oldM m) = 0) : (oldT1 most).inT 1 (oldM m) 0 = oldT2 most m := by
  unfold Ts.inT
  rw [if_pos h]
  rfl
theorem old_inT1n {most : Int} {m : Mg} (h : (oldT1 most).inC 1 (oldM m) ≠ 0) : (oldT1 most).inT 1 (oldM m) 0 = oldT1 most := by
  unfold Ts.inT
  rw [if_neg h]
theorem old_ok {most : Int} (h0 : 1 ≤ most) (h1 : most ≤ 65536) : (oldT most).Ok := newT_ok (old_new h0 h1)
theorem old_ok1 {most : Int} (h0 : 1 ≤ most) (h1 : most ≤ 65536) : (oldT1 most).Ok := (old_ok h0 h1).upd _ _
theorem old_ok2 {most : Int} {m : Mg} (h0 : 1 ≤ most) (h1 : most ≤ 65536) (hm : m.Wf) : (oldT2 most m).Ok := by
  obtain ⟨_, _, _, _, _, _, _, _, _, _, _, _, _, _, _, hp⟩ := hm
  exact (old_ok1 h0 h1).set _ _ zero_in64 hp
theorem old_ok4 {most : Int} {m : Mg} (h0 : 1 ≤ most) (h1 : most ≤ 65536) (hm : m.Wf) : (oldT4 most m).Ok := ((old_ok2 h0 h1 hm).upd _ _).upd _ _
theorem old_root (most : Int) (m : Mg) : (((oldT4 most m).best 0).at_ == -1) = true := by kernel_rfl
/-- Whether what was heard counts. -/
theorem old_good (most later : Int) (m : Mg) (hl : 0 ≤ later) : (((oldT2 most m).F later 1).good oldO) = (decide (later ≤ most) && decide ((⟨m.one, m.cls, m.two, m.id⟩ : Pri).cmp oldO < 0)) := by
  show (((true && ((true && decide (0 ≤ later)) && decide (later - 0 ≤ most))) && decide ((⟨m.one, m.cls, m.two, m.id⟩ : Pri).cmp oldO < 0))) = _
  rw [decide_eq_true hl, show later - 0 = later by omega]
  simp
theorem old_good0 (most later : Int) (m : Mg) : ((oldT2 most m).F later 0).good oldO = false := by kernel_rfl
theorem old_best {most later : Int} {m : Mg} (hl : 0 ≤ later) (h : (decide (later ≤ most) && decide ((⟨m.one, m.cls, m.two, m.id⟩ : Pri).cmp oldO < 0)) = true) : ((oldT2 most m).best later).at_ = 1 := by
  have hg := old_good most later m hl
  rw [h] at hg
  show (chs oldO ((oldT2 most m).F later) 2).at_ = 1
  rcases chs_inv oldO ((oldT2 most m).F later) 2 with ⟨h1, _⟩ | ⟨⟨j, hj, hgj, hc⟩, _⟩
  · rw [h1 1 (by decide)] at hg; cases hg
  · rw [hc]
    rcases (show j = 0 ∨ j = 1 by omega) with rfl | rfl
    · rw [old_good0] at hgj; cases hgj
    · rfl
theorem old_none {most later : Int} {m : Mg} (hl : 0 ≤ later) (h : (decide (later ≤ most) && decide ((⟨m.one, m.cls, m.two, m.id⟩ : Pri).cmp oldO < 0)) = false) : ((oldT2 most m).best later).at_ = -1 := by
  have hg := old_good most later m hl
  rw [h] at hg
  show (chs oldO ((oldT2 most m).F later) 2).at_ = -1
  rw [chs_none oldO _ 2 (fun k hk => by
    rcases (show k = 0 ∨ k = 1 by omega) with rfl | rfl
    · exact old_good0 _ _ _
    · exact hg)]
  rfl
theorem old_roles (most later : Int) (m : Mg) : ∃ r, (oldT2 most m).roles later = [0, r] := ⟨_, rfl⟩

end Go.Proofs.Ytihddpoaemhlnaa
