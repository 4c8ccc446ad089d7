/- A line of clocks, in plain numbers. -/
import Derived.Test.YtholemjbjmkpkaaTrKept
namespace Go.Proofs.Ytholemjbjmkpkaa
open Go.RowKit Go.Joins Go.Deep

/-- The path to the k-th clock. -/
def lineP (k : Nat) : List Int := (List.range (k + 1)).map fun (j : Nat) => 100 + (j : Int)
def lineM (p s : Int) (k : Nat) : Mg := ⟨11, 3, s, 100 + (k : Int), p, 0, 0, 0, 0, 0, 0, 0, 0, 100, (k : Int), lineP k⟩
def lineN (k : Nat) : Ts := newT 3 ⟨(k : Int), 0, 0, 100 + (k : Int)⟩ 2 9
def lineB (k : Nat) : Ts := ((lineN k).upd 0 true).upd 1 true
def lineT (k : Nat) : Ts := if k = 0 then lineB 0 else (lineB k).set 0 (heardK (lineM 1 0 (k - 1)) 0)
theorem lineP_len (k : Nat) : (lineP k).length = k + 1 := by simp [lineP]
theorem lineP_at {k j : Nat} (h : j < k + 1) : (lineP k)[j]? = some (100 + (j : Int)) := by
  unfold lineP
  rw [List.getElem?_map, List.getElem?_range h]
  rfl
theorem lineP_in {k : Nat} (hk : k < 16) : ∀ x ∈ lineP k, In64 x := by
  intro x hx
  unfold lineP at hx
  simp only [List.mem_map, List.mem_range] at hx
  obtain ⟨j, hj, rfl⟩ := hx
  exact ⟨by omega, by omega⟩
theorem lineM_wf {p s : Int} {k : Nat} (hp : In64 p) (hs : In64 s) (hk : k < 16) : (lineM p s k).Wf :=
  ⟨small_in64 (by show (0 : Int) ≤ 11; omega) (by show (11 : Int) < 2147483648; omega), small_in64 (by show (0 : Int) ≤ 3; omega) (by show (3 : Int) < 2147483648; omega), hs, small_in64 (by show (0 : Int) ≤ 100 + (k : Int); omega) (by show 100 + (k : Int) < 2147483648; omega), hp, zero_in64, zero_in64, zero_in64, zero_in64, zero_in64, zero_in64, zero_in64, zero_in64, small_in64 (by show (0 : Int) ≤ 100; omega) (by show (100 : Int) < 2147483648; omega), small_in64 (by show (0 : Int) ≤ (k : Int); omega) (by show (k : Int) < 2147483648; omega), lineP_in hk⟩
theorem k16 {k : Nat} (hk : k < 16) : k = 0 ∨ k = 1 ∨ k = 2 ∨ k = 3 ∨ k = 4 ∨ k = 5 ∨ k = 6 ∨ k = 7 ∨ k = 8 ∨ k = 9 ∨ k = 10 ∨ k = 11 ∨ k = 12 ∨ k = 13 ∨ k = 14 ∨ k = 15 := by omega
theorem chk_of {m : Mg} (h1 : kindB m.kind = true) (a : winB 127 [m.dom] = true) (b : winB 65535 [m.seq, m.port, m.tp] = true) (c : winB 281474976710655 [m.src, m.tw, m.id] = true) (d : winB 255 [m.one, m.cls, m.two, m.steps] = true) (e : m.besB = false) (h3 : decide (32 < m.path.length) = false) (h4 : winB 281474976710655 m.path = true) : m.chk = 0 := by
  unfold Mg.chk
  rw [h1, a, b, c, d, e, h4, if_pos rfl]
  rw [if_pos (by rfl), if_neg (of_decide_eq_false h3), if_pos rfl]
theorem lineM_chk {p s : Int} {k : Nat} (hp : 0 ≤ p ∧ p ≤ 65535) (hs : 0 ≤ s ∧ s ≤ 65535) (hk : k < 16) : (lineM p s k).chk = 0 := by
  have h : winB 65535 [s, p, 0] = true := winB_iff.2 (by intro x hx; simp at hx; rcases hx with rfl | rfl | rfl <;> omega)
  rcases k16 hk with rfl | rfl | rfl | rfl | rfl | rfl | rfl | rfl | rfl | rfl | rfl | rfl | rfl | rfl | rfl | rfl <;>
    exact chk_of (by kernel_rfl) (by kernel_rfl) h (by kernel_rfl) (by kernel_rfl) (by kernel_rfl) (by kernel_rfl) (by kernel_rfl)
theorem inC_of {t : Ts} {at_ : Int} {m : Mg} (h1 : m.kind = 11) (h2 : m.dom = t.dom) (h3 : m.chk = 0) (h4 : (t.has at_ && (t.ports at_.toNat).up) = true) (h5 : decide (m.src = t.own.id ∨ t.own.id ∈ m.path ∨ m.steps = 255 ∨ m.path.length = 32) = false) : t.inC at_ m = 0 := by
  unfold Ts.inC
  rw [if_pos ⟨h1, h2, h3⟩, if_pos h4, if_neg (of_decide_eq_false h5)]
theorem line_in {s : Int} {k : Nat} (hs : 0 ≤ s ∧ s ≤ 65535) (hk : k + 1 < 16) : (lineB (k + 1)).inC 0 (lineM 1 s k) = 0 := by
  have hc : (lineM 1 s k).chk = 0 := lineM_chk ⟨by decide, by decide⟩ hs (by omega)
  rcases k16 (show k < 16 by omega) with rfl | rfl | rfl | rfl | rfl | rfl | rfl | rfl | rfl | rfl | rfl | rfl | rfl | rfl | rfl | rfl
  all_goals first
    | exact inC_of (by kernel_rfl) (by kernel_rfl) hc (by kernel_rfl) (by kernel_rfl)
    | omega
theorem line_inT {s : Int} {k : Nat} (hs : 0 ≤ s ∧ s ≤ 65535) (hk : k + 1 < 16) : (lineB (k + 1)).inT 0 (lineM 1 s k) 0 = lineT (k + 1) := by
  unfold Ts.inT
  rw [if_pos (line_in hs hk)]
  rfl
theorem outB_of {t : Ts} {at_ seq now : Int} {m : Mg} (h1 : t.has at_ = true) (h2 : roleV t.own.id (t.best now) at_ (t.F now at_.toNat) = 1) (hm : t.outM at_ seq now = m) (h3 : m.chk = 0) : t.outB at_ seq now = true := by
  unfold Ts.outB
  rw [h1, h2, hm, h3]
  rfl
theorem outB_no {t : Ts} {at_ seq now : Int} (h2 : (roleV t.own.id (t.best now) at_ (t.F now at_.toNat) == 1) = false) : t.outB at_ seq now = false := by
  unfold Ts.outB
  rw [h2, Bool.false_and, Bool.and_false]
theorem line_outM {s : Int} {k : Nat} (hk : k < 16) : (lineT k).outM 1 s 1 = lineM 1 s k := by
  rcases k16 hk with rfl | rfl | rfl | rfl | rfl | rfl | rfl | rfl | rfl | rfl | rfl | rfl | rfl | rfl | rfl | rfl <;> kernel_rfl
theorem line_outB {s : Int} {k : Nat} (hs : 0 ≤ s ∧ s ≤ 65535) (hk : k < 16) : (lineT k).outB 1 s 1 = true := by
  refine outB_of ?_ ?_ (line_outM hk) (lineM_chk ⟨by decide, by decide⟩ hs hk)
  all_goals rcases k16 hk with rfl | rfl | rfl | rfl | rfl | rfl | rfl | rfl | rfl | rfl | rfl | rfl | rfl | rfl | rfl | rfl <;> kernel_rfl
theorem line_first {s : Int} (hs : 0 ≤ s ∧ s ≤ 65535) : (lineT 0).outB 0 s 1 = true :=
  outB_of (m := lineM 0 s 0) (by kernel_rfl) (by kernel_rfl) (by kernel_rfl) (lineM_chk ⟨by decide, by decide⟩ hs (by decide))
theorem line_back {s : Int} {k : Nat} (hk : k + 1 < 16) : (lineT (k + 1)).outB 0 s 1 = false := by
  refine outB_no ?_
  rcases k16 (show k < 16 by omega) with rfl | rfl | rfl | rfl | rfl | rfl | rfl | rfl | rfl | rfl | rfl | rfl | rfl | rfl | rfl | rfl
  all_goals first
    | kernel_rfl
    | omega
theorem lineN_new {k : Nat} (hk : k < 16) : newB 3 ⟨(k : Int), 0, 0, 100 + (k : Int)⟩ ((2 : Nat) : Int) 9 = true := by
  rcases k16 hk with rfl | rfl | rfl | rfl | rfl | rfl | rfl | rfl | rfl | rfl | rfl | rfl | rfl | rfl | rfl | rfl <;> kernel_rfl
theorem line_own {k : Nat} (hk : k < 16) : In64 (k : Int) ∧ In64 0 ∧ In64 0 ∧ In64 (100 + (k : Int)) := ⟨small_in64 (by omega) (by omega), zero_in64, zero_in64, small_in64 (by omega) (by omega)⟩
theorem lineB_ok {k : Nat} (hk : k < 16) : (lineB k).Ok := ((newT_ok (lineN_new hk)).upd _ _).upd _ _
theorem lineB_fit {k : Nat} (hk : k < 16) : (lineB k).Fit := ((newT_fit (small_in64 (by decide) (by decide)) (line_own hk)).upd _ _).upd _ _
theorem lineT_ok {k : Nat} (hk : k < 16) : (lineT k).Ok := by
  cases k with
  | zero => exact lineB_ok hk
  | succ k =>
    rw [← line_inT (s := 0) ⟨by decide, by decide⟩ hk]
    exact (lineB_ok hk).inT _ _ _ zero_in64 (lineP_in (by omega))
theorem lineT_fit {k : Nat} (hk : k < 16) : (lineT k).Fit := by
  cases k with
  | zero => exact lineB_fit hk
  | succ k =>
    rw [← line_inT (s := 0) ⟨by decide, by decide⟩ hk]
    exact (lineB_fit hk).inT _ _ _ (lineM_wf (small_in64 (by decide) (by decide)) zero_in64 (by omega))

end Go.Proofs.Ytholemjbjmkpkaa
