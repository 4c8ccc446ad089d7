/- Unlike messages have unlike bytes. -/
import Derived.Test.YtcdcklkbjfhhnaaPtSame
import Derived.Test.YtcdcklkbjfhhnaaPtKindsW
namespace Go.Proofs.Ytcdcklkbjfhhnaa
open Go.RowKit Go.Joins

def unum (l : List Nat) : Nat := l.foldl (fun a d => a * 256 + d) 0
theorem unum_snoc (l : List Nat) (d : Nat) : unum (l ++ [d]) = unum l * 256 + d := by unfold unum; rw [List.foldl_append]; rfl
theorem be_succ (n : Nat) (x : Int) : be (n + 1) x = be n (x / 256) ++ [(x % 256).toNat] := by
  unfold be
  rw [List.range_succ, List.map_append]
  congr 1
  · apply List.map_congr_left
    intro i hi
    have hi' : i < n := by simpa using hi
    have e : (n + 1 - 1 - i) * 8 = 8 + (n - 1 - i) * 8 := by omega
    rw [e, Int.pow_add, ← Int.ediv_ediv_of_nonneg (by decide)]
    rfl
  · simp
theorem be_zero (x : Int) : be 0 x = [] := rfl
theorem unum_be1 (x : Int) : unum (be 1 x) = (x % 256).toNat := by simp [be_succ, be_zero, unum]
theorem unum_be2 (x : Int) : unum (be 2 x) = (x % 65536).toNat := by
  simp only [be_succ, be_zero, List.nil_append, unum_snoc]
  rw [show unum [((x / 256) % 256).toNat] = ((x / 256) % 256).toNat by simp [unum]]
  omega
theorem unum_be6 (x : Int) : unum (be 6 x) = (x % 281474976710656).toNat := by
  rw [be_succ 5, unum_snoc, be_succ 4, unum_snoc, be_succ 3, unum_snoc, be_succ 2, unum_snoc, unum_be2]
  omega
theorem unum_be8 (x : Int) : unum (be 8 x) = (x % 18446744073709551616).toNat := by
  rw [be_succ 7, unum_snoc, be_succ 6, unum_snoc, unum_be6]
  omega
theorem be1_inj {x y : Int} (h : be 1 x = be 1 y) (hx : 0 ≤ x ∧ x ≤ 255) (hy : 0 ≤ y ∧ y ≤ 255) : x = y := by
  have := congrArg unum h; rw [unum_be1, unum_be1] at this; omega
theorem be2_inj {x y : Int} (h : be 2 x = be 2 y) (hx : 0 ≤ x ∧ x ≤ 65535) (hy : 0 ≤ y ∧ y ≤ 65535) : x = y := by
  have := congrArg unum h; rw [unum_be2, unum_be2] at this; omega
theorem be6_inj {x y : Int} (h : be 6 x = be 6 y) (hx : 0 ≤ x ∧ x ≤ 281474976710655) (hy : 0 ≤ y ∧ y ≤ 281474976710655) : x = y := by
  have := congrArg unum h; rw [unum_be6, unum_be6] at this; omega
theorem be8_inj {x y : Int} (h : be 8 x = be 8 y) (hx : In64 x) (hy : In64 y) : x = y := by
  unfold In64 at hx hy
  have := congrArg unum h; rw [unum_be8, unum_be8] at this; omega
theorem bes_cons (n : Nat) (y : Int) (l : List Int) : bes n (y :: l) = be n y ++ bes n l := rfl
theorem bes_nil (n : Nat) : bes n [] = [] := rfl
theorem app_inj {a b c d : List Nat} (h : a ++ b = c ++ d) (hl : a.length = c.length) : a = c ∧ b = d := List.append_inj h hl
theorem path_inj {xs ys : List Int} (h : bes 6 xs = bes 6 ys) (hl : xs.length = ys.length) (hx : ∀ x ∈ xs, 0 ≤ x ∧ x ≤ 281474976710655) (hy : ∀ x ∈ ys, 0 ≤ x ∧ x ≤ 281474976710655) : xs = ys := by
  induction xs generalizing ys with
  | nil => cases ys with
    | nil => rfl
    | cons y l => simp at hl
  | cons x l ih => cases ys with
    | nil => simp at hl
    | cons y l' =>
      rw [bes_cons, bes_cons] at h
      obtain ⟨h1, h2⟩ := app_inj h (by rw [be_len, be_len])
      rw [be6_inj h1 (hx x (by simp)) (hy y (by simp)), ih h2 (by simpa using hl) (fun z hz => hx z (by simp [hz])) (fun z hz => hy z (by simp [hz]))]

/-- What a right message's numbers are. -/
theorem Mg.Right.nums {m : Mg} (h : m.Right) : (0 ≤ m.dom ∧ m.dom ≤ 127) ∧ (0 ≤ m.seq ∧ m.seq ≤ 65535) ∧ (0 ≤ m.port ∧ m.port ≤ 65535) ∧ (0 ≤ m.tp ∧ m.tp ≤ 65535) ∧ (0 ≤ m.src ∧ m.src ≤ 281474976710655) ∧ (0 ≤ m.tw ∧ m.tw ≤ 281474976710655) ∧ (0 ≤ m.id ∧ m.id ≤ 281474976710655) ∧ (0 ≤ m.one ∧ m.one ≤ 255) ∧ (0 ≤ m.cls ∧ m.cls ≤ 255) ∧ (0 ≤ m.two ∧ m.two ≤ 255) ∧ (0 ≤ m.steps ∧ m.steps ≤ 255) := by
  have h1 := winB_iff.1 h.w1
  have h2 := winB_iff.1 h.w2
  have h3 := winB_iff.1 h.w3
  have h4 := winB_iff.1 h.w4
  exact ⟨h1 _ (by simp), h2 _ (by simp), h2 _ (by simp), h2 _ (by simp), h3 _ (by simp), h3 _ (by simp), h3 _ (by simp), h4 _ (by simp), h4 _ (by simp), h4 _ (by simp), h4 _ (by simp)⟩
/-- What it has beside its kind's bytes is nought. -/
theorem Mg.Right.side {m : Mg} (h : m.Right) :
    (m.kind = 3 ∨ m.kind = 10 ∨ m.kind = 8 ∨ m.time = 0) ∧ (m.kind = 3 ∨ m.kind = 10 ∨ (m.tw = 0 ∧ m.tp = 0)) ∧ (m.kind = 8 ∨ m.rate = 0) ∧ (m.kind = 11 ∨ (m.one = 0 ∧ m.cls = 0 ∧ m.two = 0 ∧ m.id = 0 ∧ m.steps = 0 ∧ m.path = [])) := by
  have hb := h.bes
  unfold Mg.besB Mg.ans Mg.bestB at hb
  simp only [Bool.or_eq_false_iff, Bool.and_eq_false_iff, Bool.not_eq_false', Bool.or_eq_true, beq_iff_eq, bne_eq_false_iff_eq, decide_eq_false_iff_not, Bool.and_eq_true] at hb
  obtain ⟨⟨⟨h1, h2⟩, h3⟩, h4⟩ := hb
  refine ⟨by omega, by omega, by omega, ?_⟩
  rcases h4 with h4 | ⟨⟨h5, h6⟩, h7⟩
  · exact .inl h4
  · exact .inr ⟨h5.1.1.1, h5.1.1.2, h5.1.2, h5.2, h6, List.eq_nil_of_length_eq_zero (by omega)⟩

theorem text_inj {a b : Mg} (ha : a.Right) (hb : b.Right) (wa : a.Wf) (wb : b.Wf) (h : a.text = b.text) : a = b := by
  have na := ha.nums
  have nb := hb.nums
  have sa := ha.side
  have sb := hb.side
  have ka := ha.kind
  have kb := hb.kind
  have pa := winB_iff.1 ha.w5
  have pb := winB_iff.1 hb.w5
  have la := ha.few
  have lb := hb.few
  unfold Mg.text at h
  obtain ⟨h1, h2⟩ := app_inj h (by rw [a.head_len, b.head_len])
  unfold Mg.head at h1
  obtain ⟨h1, e5⟩ := app_inj h1 (by simp only [List.length_append, bes_len]; rfl)
  obtain ⟨h1, e4⟩ := app_inj h1 (by simp only [List.length_append, bes_len]; rfl)
  obtain ⟨h1, e3⟩ := app_inj h1 (by simp only [List.length_append, bes_len]; rfl)
  obtain ⟨h1, e2⟩ := app_inj h1 (by simp only [List.length_append, bes_len]; rfl)
  simp only [bes_cons, bes_nil, List.append_nil] at h1 e2 e3 e4 e5
  obtain ⟨e0, e1⟩ := app_inj h1 (by rw [be_len, be_len])
  have k0 : a.kind = b.kind := by have := be1_inj e0 (by omega) (by omega); omega
  have k1 := be1_inj e1 (by omega) (by omega)
  have k2 := be2_inj e2 (by omega) (by omega)
  have k3 := be6_inj e3 (by omega) (by omega)
  have k4 := be2_inj e4 (by omega) (by omega)
  have k5 := be8_inj e5 wa.2.2.2.2.2.1 wb.2.2.2.2.2.1
  clear h e0 e1 e2 e3 e4 e5 h1
  obtain ⟨_, _, _, _, _, _, i6, i7, i8, i9, i10, i11, i12, i13, i14, ipa⟩ := wa
  obtain ⟨_, _, _, _, _, _, j6, j7, j8, j9, j10, j11, j12, j13, j14, ipb⟩ := wb
  unfold Mg.tail at h2
  rw [← k0] at h2 kb sb
  obtain ⟨akind, adom, aseq, asrc, aport, acorr, atime, atw, atp, arate, aone, acls, atwo, aid, asteps, apath⟩ := a
  obtain ⟨bkind, bdom, bseq, bsrc, bport, bcorr, btime, btw, btp, brate, bone, bcls, btwo, bid, bsteps, bpath⟩ := b
  dsimp only at *
  subst k0 k1 k2 k3 k4 k5
  rcases ka with hk | hk | hk | hk | hk | hk
  all_goals
    rw [hk] at h2 sa sb
    simp only [bes_cons, bes_nil, List.append_nil, List.append_assoc] at h2
  · obtain ⟨rfl, ⟨rfl, rfl⟩, rfl, rfl, rfl, rfl, rfl, rfl, rfl⟩ : atime = 0 ∧ (atw = 0 ∧ atp = 0) ∧ arate = 0 ∧ aone = 0 ∧ acls = 0 ∧ atwo = 0 ∧ aid = 0 ∧ asteps = 0 ∧ apath = [] := by simpa using sa
    obtain ⟨rfl, ⟨rfl, rfl⟩, rfl, rfl, rfl, rfl, rfl, rfl, rfl⟩ : btime = 0 ∧ (btw = 0 ∧ btp = 0) ∧ brate = 0 ∧ bone = 0 ∧ bcls = 0 ∧ btwo = 0 ∧ bid = 0 ∧ bsteps = 0 ∧ bpath = [] := by simpa using sb
    rfl
  · obtain ⟨rfl, ⟨rfl, rfl⟩, rfl, rfl, rfl, rfl, rfl, rfl, rfl⟩ : atime = 0 ∧ (atw = 0 ∧ atp = 0) ∧ arate = 0 ∧ aone = 0 ∧ acls = 0 ∧ atwo = 0 ∧ aid = 0 ∧ asteps = 0 ∧ apath = [] := by simpa using sa
    obtain ⟨rfl, ⟨rfl, rfl⟩, rfl, rfl, rfl, rfl, rfl, rfl, rfl⟩ : btime = 0 ∧ (btw = 0 ∧ btp = 0) ∧ brate = 0 ∧ bone = 0 ∧ bcls = 0 ∧ btwo = 0 ∧ bid = 0 ∧ bsteps = 0 ∧ bpath = [] := by simpa using sb
    rfl
  · obtain ⟨rfl, rfl, rfl, rfl, rfl, rfl, rfl⟩ : arate = 0 ∧ aone = 0 ∧ acls = 0 ∧ atwo = 0 ∧ aid = 0 ∧ asteps = 0 ∧ apath = [] := by simpa using sa
    obtain ⟨rfl, rfl, rfl, rfl, rfl, rfl, rfl⟩ : brate = 0 ∧ bone = 0 ∧ bcls = 0 ∧ btwo = 0 ∧ bid = 0 ∧ bsteps = 0 ∧ bpath = [] := by simpa using sb
    simp only [Int.reduceEq, or_true, true_or, or_false, false_or, or_self, if_true, if_false] at h2
    obtain ⟨q1, q2⟩ := app_inj h2 (by rw [be_len, be_len])
    obtain ⟨q2, q3⟩ := app_inj q2 (by rw [be_len, be_len])
    rw [be8_inj q1 i6 j6, be6_inj q2 (by omega) (by omega), be2_inj q3 (by omega) (by omega)]
  · obtain ⟨⟨rfl, rfl⟩, rfl, rfl, rfl, rfl, rfl, rfl⟩ : (atw = 0 ∧ atp = 0) ∧ aone = 0 ∧ acls = 0 ∧ atwo = 0 ∧ aid = 0 ∧ asteps = 0 ∧ apath = [] := by simpa using sa
    obtain ⟨⟨rfl, rfl⟩, rfl, rfl, rfl, rfl, rfl, rfl⟩ : (btw = 0 ∧ btp = 0) ∧ bone = 0 ∧ bcls = 0 ∧ btwo = 0 ∧ bid = 0 ∧ bsteps = 0 ∧ bpath = [] := by simpa using sb
    simp only [Int.reduceEq, or_true, true_or, or_false, false_or, or_self, if_true, if_false] at h2
    obtain ⟨q1, q2⟩ := app_inj h2 (by rw [be_len, be_len])
    rw [be8_inj q1 i6 j6, be8_inj q2 i9 j9]
  · obtain ⟨rfl, rfl, rfl, rfl, rfl, rfl, rfl⟩ : arate = 0 ∧ aone = 0 ∧ acls = 0 ∧ atwo = 0 ∧ aid = 0 ∧ asteps = 0 ∧ apath = [] := by simpa using sa
    obtain ⟨rfl, rfl, rfl, rfl, rfl, rfl, rfl⟩ : brate = 0 ∧ bone = 0 ∧ bcls = 0 ∧ btwo = 0 ∧ bid = 0 ∧ bsteps = 0 ∧ bpath = [] := by simpa using sb
    simp only [Int.reduceEq, or_true, true_or, or_false, false_or, or_self, if_true, if_false] at h2
    obtain ⟨q1, q2⟩ := app_inj h2 (by rw [be_len, be_len])
    obtain ⟨q2, q3⟩ := app_inj q2 (by rw [be_len, be_len])
    rw [be8_inj q1 i6 j6, be6_inj q2 (by omega) (by omega), be2_inj q3 (by omega) (by omega)]
  · obtain ⟨rfl, ⟨rfl, rfl⟩, rfl⟩ : atime = 0 ∧ (atw = 0 ∧ atp = 0) ∧ arate = 0 := by simpa using sa
    obtain ⟨rfl, ⟨rfl, rfl⟩, rfl⟩ : btime = 0 ∧ (btw = 0 ∧ btp = 0) ∧ brate = 0 := by simpa using sb
    simp only [Int.reduceEq, or_true, true_or, or_false, false_or, or_self, if_true, if_false] at h2
    obtain ⟨q1, q2⟩ := app_inj h2 (by rw [be_len, be_len])
    obtain ⟨q2, q3⟩ := app_inj q2 (by rw [be_len, be_len])
    obtain ⟨q3, q4⟩ := app_inj q3 (by rw [be_len, be_len])
    obtain ⟨q4, q5⟩ := app_inj q4 (by rw [be_len, be_len])
    obtain ⟨q5, q6⟩ := app_inj q5 (by rw [be_len, be_len])
    obtain ⟨q6, q7⟩ := app_inj q6 (by rw [be_len, be_len])
    have hl : apath.length = bpath.length := by have := be1_inj q6 (by omega) (by omega); omega
    rw [be1_inj q1 (by omega) (by omega), be1_inj q2 (by omega) (by omega), be1_inj q3 (by omega) (by omega), be6_inj q4 (by omega) (by omega), be1_inj q5 (by omega) (by omega), path_inj q7 hl pa pb]

end Go.Proofs.Ytcdcklkbjfhhnaa
