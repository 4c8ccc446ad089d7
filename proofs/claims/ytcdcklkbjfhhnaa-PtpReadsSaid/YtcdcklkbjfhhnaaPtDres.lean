/- A message's bytes and Decode: the same message; one byte more; some missing. -/
import Derived.Test.YtcdcklkbjfhhnaaPtDecA
namespace Go.Proofs.Ytcdcklkbjfhhnaa
open Go.RowKit Go.Joins

theorem run_len (xs : List Nat) (s : St) (ns : List Nat) : (run xs s ns).1.length = ns.length := by
  induction ns generalizing s with
  | nil => rfl
  | cons n ns ih => show (run xs (nst xs s n) ns).1.length + 1 = _; rw [ih]; rfl
theorem sum_rep (n : Nat) : (List.replicate n 6).sum = 6 * n := by
  induction n with
  | zero => rfl
  | succ n ih => rw [List.replicate_succ, List.sum_cons, ih]; omega
theorem lay_rep (ps : List Int) : lay (List.replicate ps.length 6) ps = bes 6 ps := by
  induction ps with
  | nil => rfl
  | cons p ps ih => show be 6 p ++ lay (List.replicate ps.length 6) ps = _; rw [ih]; rfl
theorem lay_app {a c : List Nat} {u v : List Int} (h : a.length = u.length) : lay (a ++ c) (u ++ v) = lay a u ++ lay c v := by
  induction a generalizing u with
  | nil => rw [List.eq_nil_of_length_eq_zero h.symm]; rfl
  | cons n a ih =>
    cases u with
    | nil => simp at h
    | cons x u =>
      show be n x ++ lay (a ++ c) (u ++ v) = _
      rw [ih (by simpa using h), ← List.append_assoc]; rfl
theorem first_of {xs : List Nat} {n : Nat} {ns : List Nat} {s : St} {v : Int} {vs : List Int} {t : St} (h : run xs s (n :: ns) = (v :: vs, t)) : nval xs s n = v := by
  have := congrArg (fun r => r.1.getD 0 0) h
  exact this
theorem fit1 {x : Int} (h : 0 ≤ x ∧ x ≤ 255) : FitN 1 x := .inl ⟨rfl, h⟩
theorem fit2 {x : Int} (h : 0 ≤ x ∧ x ≤ 65535) : FitN 2 x := .inr (.inl ⟨rfl, h⟩)
theorem fit6 {x : Int} (h : 0 ≤ x ∧ x ≤ 281474976710655) : FitN 6 x := .inr (.inr (.inl ⟨rfl, h⟩))
theorem fit8 {x : Int} (h : In64 x) : FitN 8 x := .inr (.inr (.inr ⟨rfl, h⟩))
theorem fits9 {n0 n1 n2 n3 n4 n5 n6 n7 n8 : Nat} {v0 v1 v2 v3 v4 v5 v6 v7 v8 : Int} (h0 : FitN n0 v0) (h1 : FitN n1 v1) (h2 : FitN n2 v2) (h3 : FitN n3 v3) (h4 : FitN n4 v4) (h5 : FitN n5 v5) (h6 : FitN n6 v6) (h7 : FitN n7 v7) (h8 : FitN n8 v8) :
    ∀ i, i < [n0, n1, n2, n3, n4, n5, n6, n7, n8].length → FitN ([n0, n1, n2, n3, n4, n5, n6, n7, n8].getD i 0) ([v0, v1, v2, v3, v4, v5, v6, v7, v8].getD i 0) := fun i hi => by
  have : i = 0 ∨ i = 1 ∨ i = 2 ∨ i = 3 ∨ i = 4 ∨ i = 5 ∨ i = 6 ∨ i = 7 ∨ i = 8 := by simp at hi; omega
  rcases this with rfl | rfl | rfl | rfl | rfl | rfl | rfl | rfl | rfl <;> assumption
theorem fits8 {n0 n1 n2 n3 n4 n5 n6 n7 : Nat} {v0 v1 v2 v3 v4 v5 v6 v7 : Int} (h0 : FitN n0 v0) (h1 : FitN n1 v1) (h2 : FitN n2 v2) (h3 : FitN n3 v3) (h4 : FitN n4 v4) (h5 : FitN n5 v5) (h6 : FitN n6 v6) (h7 : FitN n7 v7) :
    ∀ i, i < [n0, n1, n2, n3, n4, n5, n6, n7].length → FitN ([n0, n1, n2, n3, n4, n5, n6, n7].getD i 0) ([v0, v1, v2, v3, v4, v5, v6, v7].getD i 0) := fun i hi => by
  have : i = 0 ∨ i = 1 ∨ i = 2 ∨ i = 3 ∨ i = 4 ∨ i = 5 ∨ i = 6 ∨ i = 7 := by simp at hi; omega
  rcases this with rfl | rfl | rfl | rfl | rfl | rfl | rfl | rfl <;> assumption
theorem fits6 {n0 n1 n2 n3 n4 n5 : Nat} {v0 v1 v2 v3 v4 v5 : Int} (h0 : FitN n0 v0) (h1 : FitN n1 v1) (h2 : FitN n2 v2) (h3 : FitN n3 v3) (h4 : FitN n4 v4) (h5 : FitN n5 v5) :
    ∀ i, i < [n0, n1, n2, n3, n4, n5].length → FitN ([n0, n1, n2, n3, n4, n5].getD i 0) ([v0, v1, v2, v3, v4, v5].getD i 0) := fun i hi => by
  have : i = 0 ∨ i = 1 ∨ i = 2 ∨ i = 3 ∨ i = 4 ∨ i = 5 := by simp at hi; omega
  rcases this with rfl | rfl | rfl | rfl | rfl | rfl <;> assumption
theorem fits12 {n0 n1 n2 n3 n4 n5 n6 n7 n8 n9 n10 n11 : Nat} {v0 v1 v2 v3 v4 v5 v6 v7 v8 v9 v10 v11 : Int} (h0 : FitN n0 v0) (h1 : FitN n1 v1) (h2 : FitN n2 v2) (h3 : FitN n3 v3) (h4 : FitN n4 v4) (h5 : FitN n5 v5) (h6 : FitN n6 v6) (h7 : FitN n7 v7) (h8 : FitN n8 v8) (h9 : FitN n9 v9) (h10 : FitN n10 v10) (h11 : FitN n11 v11) :
    ∀ i, i < [n0, n1, n2, n3, n4, n5, n6, n7, n8, n9, n10, n11].length → FitN ([n0, n1, n2, n3, n4, n5, n6, n7, n8, n9, n10, n11].getD i 0) ([v0, v1, v2, v3, v4, v5, v6, v7, v8, v9, v10, v11].getD i 0) := fun i hi => by
  have : i = 0 ∨ i = 1 ∨ i = 2 ∨ i = 3 ∨ i = 4 ∨ i = 5 ∨ i = 6 ∨ i = 7 ∨ i = 8 ∨ i = 9 ∨ i = 10 ∨ i = 11 := by simp at hi; omega
  rcases this with rfl | rfl | rfl | rfl | rfl | rfl | rfl | rfl | rfl | rfl | rfl | rfl <;> assumption
theorem fitsP {ps : List Int} (h : ∀ x ∈ ps, 0 ≤ x ∧ x ≤ 281474976710655) : ∀ i, i < (List.replicate ps.length 6).length → FitN ((List.replicate ps.length 6).getD i 0) (ps.getD i 0) := fun i hi => by
  rw [List.length_replicate] at hi
  have e : (List.replicate ps.length 6).getD i 0 = 6 := by rw [List.getD_eq_getElem?_getD, List.getElem?_replicate, if_pos hi]; rfl
  rw [e, List.getD_eq_getElem?_getD, List.getElem?_eq_getElem hi]
  exact fit6 (h _ (List.getElem_mem hi))

/-- What was laid, and more, is read as it was. -/
theorem rd_text {m : Mg} (hr : m.Right) (hw : m.Wf) (ys : List Nat) : rd (m.text ++ ys) = (0, m, ⟨m.text.length, false⟩) := by
  have hn := hr.nums
  have hs := hr.side
  have hk := hr.kind
  have hp := winB_iff.1 hr.w5
  have hf := hr.few
  obtain ⟨_, i1, i2, i3, i4, i5, i6, i7, i8, i9, i10, i11, i12, i13, i14, ip⟩ := hw
  obtain ⟨g1, g2, g4, g8, g3, g7, g13, g10, g11, g12, g14⟩ := hn
  obtain ⟨kind, dom, seq, src, port, corr, time, tw, tp, rate, one, cls, two, id, steps, path⟩ := m
  dsimp only at *
  clear hr
  rcases hk with rfl | rfl | rfl | rfl | rfl | rfl
  · obtain ⟨rfl, ⟨rfl, rfl⟩, rfl, rfl, rfl, rfl, rfl, rfl, rfl⟩ : time = 0 ∧ (tw = 0 ∧ tp = 0) ∧ rate = 0 ∧ one = 0 ∧ cls = 0 ∧ two = 0 ∧ id = 0 ∧ steps = 0 ∧ path = [] := by simpa using hs
    generalize hX : Mg.text _ ++ ys = xs
    have ht : xs.drop s0.k = lay zH [16, dom, seq, src, port, corr] ++ ys := by
      rw [← hX]; simp [s0, zH, lay, Mg.text, Mg.head, Mg.tail, bes_cons, bes_nil]
    obtain ⟨r1, r2, r3⟩ := run_fwd (s := s0) rfl (Nat.zero_le _) rfl (fits6 (fit1 (by omega)) (fit1 (by omega)) (fit2 g2) (fit6 g3) (fit2 g4) (fit8 i5)) ht
    have h0 := first_of r1
    replace r1 : run xs s0 zH = (_, St.mk 20 false) := r1
    unfold rd
    rw [if_neg (by omega), h0, if_neg (by decide), if_neg (by omega), if_neg (by omega), if_neg (by omega), r1]
    rfl
  · obtain ⟨rfl, ⟨rfl, rfl⟩, rfl, rfl, rfl, rfl, rfl, rfl, rfl⟩ : time = 0 ∧ (tw = 0 ∧ tp = 0) ∧ rate = 0 ∧ one = 0 ∧ cls = 0 ∧ two = 0 ∧ id = 0 ∧ steps = 0 ∧ path = [] := by simpa using hs
    generalize hX : Mg.text _ ++ ys = xs
    have ht : xs.drop s0.k = lay zH [18, dom, seq, src, port, corr] ++ ys := by
      rw [← hX]; simp [s0, zH, lay, Mg.text, Mg.head, Mg.tail, bes_cons, bes_nil]
    obtain ⟨r1, r2, r3⟩ := run_fwd (s := s0) rfl (Nat.zero_le _) rfl (fits6 (fit1 (by omega)) (fit1 (by omega)) (fit2 g2) (fit6 g3) (fit2 g4) (fit8 i5)) ht
    have h0 := first_of r1
    replace r1 : run xs s0 zH = (_, St.mk 20 false) := r1
    unfold rd
    rw [if_neg (by omega), h0, if_neg (by decide), if_neg (by omega), if_neg (by omega), if_neg (by omega), r1]
    rfl
  · obtain ⟨rfl, rfl, rfl, rfl, rfl, rfl, rfl⟩ : rate = 0 ∧ one = 0 ∧ cls = 0 ∧ two = 0 ∧ id = 0 ∧ steps = 0 ∧ path = [] := by simpa using hs
    generalize hX : Mg.text _ ++ ys = xs
    have ht : xs.drop s0.k = lay zA [19, dom, seq, src, port, corr, time, tw, tp] ++ ys := by
      rw [← hX]; simp [s0, zA, zH, lay, Mg.text, Mg.head, Mg.tail, bes_cons, bes_nil]
    obtain ⟨r1, r2, r3⟩ := run_fwd (s := s0) rfl (Nat.zero_le _) rfl (fits9 (fit1 (by omega)) (fit1 (by omega)) (fit2 g2) (fit6 g3) (fit2 g4) (fit8 i5) (fit8 i6) (fit6 g7) (fit2 g8)) ht
    have h0 := first_of r1
    replace r1 : run xs s0 zA = (_, St.mk 36 false) := r1
    unfold rd
    rw [if_neg (by omega), h0, if_neg (by decide), if_pos (by omega), r1]
    rfl
  · obtain ⟨⟨rfl, rfl⟩, rfl, rfl, rfl, rfl, rfl, rfl⟩ : (tw = 0 ∧ tp = 0) ∧ one = 0 ∧ cls = 0 ∧ two = 0 ∧ id = 0 ∧ steps = 0 ∧ path = [] := by simpa using hs
    generalize hX : Mg.text _ ++ ys = xs
    have ht : xs.drop s0.k = lay zF [24, dom, seq, src, port, corr, time, rate] ++ ys := by
      rw [← hX]; simp [s0, zF, zH, lay, Mg.text, Mg.head, Mg.tail, bes_cons, bes_nil]
    obtain ⟨r1, r2, r3⟩ := run_fwd (s := s0) rfl (Nat.zero_le _) rfl (fits8 (fit1 (by omega)) (fit1 (by omega)) (fit2 g2) (fit6 g3) (fit2 g4) (fit8 i5) (fit8 i6) (fit8 i9)) ht
    have h0 := first_of r1
    replace r1 : run xs s0 zF = (_, St.mk 36 false) := r1
    unfold rd
    rw [if_neg (by omega), h0, if_neg (by decide), if_neg (by omega), if_pos rfl, r1]
    rfl
  · obtain ⟨rfl, rfl, rfl, rfl, rfl, rfl, rfl⟩ : rate = 0 ∧ one = 0 ∧ cls = 0 ∧ two = 0 ∧ id = 0 ∧ steps = 0 ∧ path = [] := by simpa using hs
    generalize hX : Mg.text _ ++ ys = xs
    have ht : xs.drop s0.k = lay zA [26, dom, seq, src, port, corr, time, tw, tp] ++ ys := by
      rw [← hX]; simp [s0, zA, zH, lay, Mg.text, Mg.head, Mg.tail, bes_cons, bes_nil]
    obtain ⟨r1, r2, r3⟩ := run_fwd (s := s0) rfl (Nat.zero_le _) rfl (fits9 (fit1 (by omega)) (fit1 (by omega)) (fit2 g2) (fit6 g3) (fit2 g4) (fit8 i5) (fit8 i6) (fit6 g7) (fit2 g8)) ht
    have h0 := first_of r1
    replace r1 : run xs s0 zA = (_, St.mk 36 false) := r1
    unfold rd
    rw [if_neg (by omega), h0, if_neg (by decide), if_pos (by omega), r1]
    rfl
  · obtain ⟨rfl, ⟨rfl, rfl⟩, rfl⟩ : time = 0 ∧ (tw = 0 ∧ tp = 0) ∧ rate = 0 := by simpa using hs
    have hlen : (Mg.text ⟨11, dom, seq, src, port, corr, 0, 0, 0, 0, one, cls, two, id, steps, path⟩).length = 31 + 6 * path.length := by
      simp [Mg.text, Mg.head, Mg.tail, bes_len]; omega
    rw [hlen]
    generalize hX : Mg.text _ ++ ys = xs
    have ht : xs.drop s0.k = lay zN [27, dom, seq, src, port, corr, one, cls, two, id, steps, (path.length : Int)] ++ (bes 6 path ++ ys) := by
      rw [← hX]; simp [s0, zN, zH, lay, Mg.text, Mg.head, Mg.tail, bes_cons, bes_nil]
    obtain ⟨r1, r2, r3⟩ := run_fwd (s := s0) rfl (Nat.zero_le _) rfl (fits12 (fit1 (by omega)) (fit1 (by omega)) (fit2 g2) (fit6 g3) (fit2 g4) (fit8 i5) (fit1 g10) (fit1 g11) (fit1 g12) (fit6 g13) (fit1 g14) (fit1 (by omega))) ht
    have h0 := first_of r1
    replace r1 : run xs s0 zN = (_, St.mk 31 false) := r1
    replace r2 : xs.drop 31 = _ := r2
    replace r3 : 31 ≤ xs.length := r3
    have hc : clocks xs = (path.length : Int) := by unfold clocks; rw [r1]; rfl
    have ht2 : xs.drop (St.mk 31 false).k = lay (List.replicate path.length 6) path ++ ys := by rw [lay_rep]; exact r2
    obtain ⟨q1, q2, q3⟩ := run_fwd (s := ⟨31, false⟩) rfl r3 (by simp) (fitsP hp) ht2
    have hpp : paths xs = (path, ⟨31 + 6 * path.length, false⟩) := by
      unfold paths
      rw [r1, hc]
      show run xs ⟨31, false⟩ (List.replicate ((path.length : Int).toNat) 6) = _
      rw [Int.toNat_natCast, q1]
      simp only [sum_rep]
    unfold rd
    rw [if_neg (by omega), h0, if_neg (by decide), if_neg (by omega), if_neg (by omega), if_pos rfl, if_neg (by omega), hpp, r1]
    rfl

/-- A message's bytes are read as it. -/
theorem dres_text {m : Mg} (hr : m.Right) (hw : m.Wf) (h0 : m.chk = 0) : dres m.text = (0, m) := by
  have h := rd_text hr hw []
  rw [List.append_nil] at h
  have hl : 20 ≤ m.text.length := by unfold Mg.text; rw [List.length_append, m.head_len]; omega
  unfold dres
  rw [if_neg (by omega), h]
  simp [h0]
/-- With one more they are none. -/
theorem dres_more {m : Mg} (hr : m.Right) (hw : m.Wf) (y : Nat) : dres (m.text ++ [y]) = (24, Mg.zero) := by
  have h := rd_text hr hw [y]
  have hl : 20 ≤ m.text.length := by unfold Mg.text; rw [List.length_append, m.head_len]; omega
  unfold dres
  rw [if_neg (by simp; omega), h]
  simp

theorem list6 {l : List Int} (h : l.length = 6) : ∃ a b c d e f, l = [a, b, c, d, e, f] := by
  match l, h with
  | [a, b, c, d, e, f], _ => exact ⟨a, b, c, d, e, f, rfl⟩
theorem list8 {l : List Int} (h : l.length = 8) : ∃ a b c d e f g i, l = [a, b, c, d, e, f, g, i] := by
  match l, h with
  | [a, b, c, d, e, f, g, i], _ => exact ⟨a, b, c, d, e, f, g, i, rfl⟩
theorem list9 {l : List Int} (h : l.length = 9) : ∃ a b c d e f g i j, l = [a, b, c, d, e, f, g, i, j] := by
  match l, h with
  | [a, b, c, d, e, f, g, i, j], _ => exact ⟨a, b, c, d, e, f, g, i, j, rfl⟩
theorem list12 {l : List Int} (h : l.length = 12) : ∃ a b c d e f g i j k m n, l = [a, b, c, d, e, f, g, i, j, k, m, n] := by
  match l, h with
  | [a, b, c, d, e, f, g, i, j, k, m, n], _ => exact ⟨a, b, c, d, e, f, g, i, j, k, m, n, rfl⟩
theorem head_val {xs : List Nat} {s : St} {n : Nat} {ns : List Nat} {v : Int} {vs : List Int} (h : (run xs s (n :: ns)).1 = v :: vs) : nval xs s n = v := by
  have := congrArg (fun r => r.getD 0 0) h
  exact this
theorem take_all {xs : List Nat} {k : Nat} (h : ¬ k < xs.length) : xs.take k = xs := List.take_of_length_le (by omega)
theorem lay_back {xs : List Nat} (hx : Crc.Bytes xs) {ns : List Nat} (hn : ∀ n ∈ ns, n ≤ 8) (h : (run xs s0 ns).2.mi = false) (hk : ¬ (run xs s0 ns).2.k < xs.length) : lay ns (run xs s0 ns).1 = xs := by
  have := run_lay hx hn h
  rw [take_all hk] at this
  simpa [s0] using this

/-- What is read as a message is its bytes. -/
theorem text_rd {xs : List Nat} (hx : Crc.Bytes xs) (he : (rd xs).1 = 0) (hm : (rd xs).2.2.mi = false) (hk : ¬ (rd xs).2.2.k < xs.length) : (rd xs).2.1.text = xs := by
  obtain ⟨r, hr⟩ : ∃ r, r = rd xs := ⟨_, rfl⟩
  rw [← hr] at he hm hk ⊢
  unfold rd at hr
  split at hr
  · rw [hr] at he; simp at he
  rename_i h1
  split at hr
  · rw [hr] at he; simp at he
  rename_i h2
  have h3 := kindB_iff.1 (Bool.not_eq_false _ ▸ h2)
  split at hr
  · rename_i h4
    rw [hr] at hm hk ⊢
    have hl := lay_back hx (ns := zA) (by decide) hm hk
    obtain ⟨v0, v1, v2, v3, v4, v5, v6, v7, v8, hv⟩ := list9 (run_len xs s0 zA)
    have h0 := head_val hv
    rw [hv] at hl ⊢
    rw [h0] at h4 ⊢
    rw [← hl]
    have e : 16 + (v0 - 16) = v0 := by omega
    have e2 : v0 - 16 = 3 ∨ v0 - 16 = 10 := by omega
    simp [mgA, zA, zH, lay, Mg.text, Mg.head, Mg.tail, bes_cons, bes_nil, e, e2]
  rename_i h4
  split at hr
  · rename_i h5
    rw [hr] at hm hk ⊢
    have hl := lay_back hx (ns := zF) (by decide) hm hk
    obtain ⟨v0, v1, v2, v3, v4, v5, v6, v7, hv⟩ := list8 (run_len xs s0 zF)
    have h0 := head_val hv
    rw [hv] at hl ⊢
    rw [h0] at h5
    subst h5
    rw [← hl]
    simp [mgF, zF, zH, lay, Mg.text, Mg.head, Mg.tail, bes_cons, bes_nil]
  rename_i h5
  split at hr
  · rename_i h6
    split at hr
    · rw [hr] at he; simp at he
    rename_i hC
    rw [hr] at hm hk ⊢
    have hm2 : (paths xs).2.mi = false := hm
    have hk2 : ¬ (paths xs).2.k < xs.length := hk
    have hz : ∀ n ∈ zN ++ List.replicate (clocks xs).toNat 6, n ≤ 8 := fun n hn => by
      rcases List.mem_append.1 hn with h | h
      · exact (show ∀ n ∈ zN, n ≤ 8 by decide) n h
      · rw [(List.mem_replicate.1 h).2]; decide
    have hap := run_app xs s0 zN (List.replicate (clocks xs).toNat 6)
    have hpe : run xs (run xs s0 zN).2 (List.replicate (clocks xs).toNat 6) = paths xs := rfl
    rw [hpe] at hap
    have hl2 := run_lay hx hz (s := s0) (by rw [hap]; exact hm2)
    rw [hap] at hl2
    have hl3 : xs.take 0 ++ lay (zN ++ List.replicate (clocks xs).toNat 6) ((run xs s0 zN).1 ++ (paths xs).1) = xs.take (paths xs).2.k := hl2
    rw [List.take_zero, List.nil_append, take_all hk2] at hl3
    clear hl2
    have hl2 := hl3
    rw [lay_app (run_len xs s0 zN).symm] at hl2
    have hpl : (paths xs).1.length = (clocks xs).toNat := by unfold paths; rw [run_len, List.length_replicate]
    rw [← hpl, lay_rep] at hl2
    obtain ⟨v0, v1, v2, v3, v4, v5, v6, v7, v8, v9, v10, v11, hv⟩ := list12 (run_len xs s0 zN)
    have h0 := head_val hv
    have hc : clocks xs = v11 := by unfold clocks; rw [hv]; rfl
    have hc0 : 0 ≤ clocks xs := (nval_byte hx (run xs s0 [1, 1, 2, 6, 2, 8, 1, 1, 1, 6, 1]).2).1
    have hpv : ((paths xs).1.length : Int) = v11 := by rw [hpl, ← hc]; omega
    generalize (paths xs).1 = ps at hl2 hpv ⊢
    rw [hv] at hl2 ⊢
    rw [h0] at h6
    subst h6
    rw [← hl2]
    simp [mgN, zN, zH, lay, Mg.text, Mg.head, Mg.tail, bes_cons, bes_nil, hpv]
  · rename_i h6
    rw [hr] at hm hk ⊢
    have hl := lay_back hx (ns := zH) (by decide) hm hk
    obtain ⟨v0, v1, v2, v3, v4, v5, hv⟩ := list6 (run_len xs s0 zH)
    have h0 := head_val hv
    rw [hv] at hl ⊢
    rw [h0] at h3 h4 h5 h6 ⊢
    rw [← hl]
    have e : 16 + (v0 - 16) = v0 := by omega
    have e2 : ¬ (v0 - 16 = 3 ∨ v0 - 16 = 10) := by omega
    have e3 : ¬ v0 - 16 = 8 := by omega
    have e4 : ¬ v0 - 16 = 11 := by omega
    simp [mg0, zH, lay, Mg.text, Mg.head, Mg.tail, bes_cons, bes_nil, e, e2, e3, e4]
/-- What Decode takes is a message's own bytes. -/
theorem dres_ok {xs : List Nat} (hx : Crc.Bytes xs) (h : (dres xs).1 = 0) : (dres xs).2.text = xs ∧ (dres xs).2.chk = 0 ∧ (dres xs).2.Wf ∧ (dres xs).2.path.length ≤ 32 ∧ dres xs = (0, (dres xs).2) := by
  have hw := rd_wf hx
  have hp := rd_path (xs := xs)
  have ht := fun a b c => text_rd hx a b c
  unfold dres at h ⊢
  split at h
  · simp at h
  rename_i h1
  rw [if_neg h1]
  split at h
  · rename_i h2; exact absurd h h2
  rename_i h2
  rw [if_neg h2]
  split at h
  · simp at h
  rename_i h3
  rw [if_neg h3]
  split at h
  · simp at h
  rename_i h4
  rw [if_neg h4]
  split at h
  · rename_i h5; exact absurd h h5
  rename_i h5
  rw [if_neg h5]
  exact ⟨ht (by simpa using h2) (by simpa using h3) h4, by simpa using h5, hw, hp, rfl⟩
theorem dres_bad {xs : List Nat} (h : (dres xs).1 ≠ 0) : (dres xs).2 = Mg.zero := by
  unfold dres at h ⊢
  split
  · rfl
  split
  · rfl
  split
  · rfl
  split
  · rfl
  split
  · rfl
  · rename_i h1 h2 h3 h4 h5
    rw [if_neg h1, if_neg h2, if_neg h3, if_neg h4, if_neg h5] at h
    exact absurd rfl h

end Go.Proofs.Ytcdcklkbjfhhnaa
