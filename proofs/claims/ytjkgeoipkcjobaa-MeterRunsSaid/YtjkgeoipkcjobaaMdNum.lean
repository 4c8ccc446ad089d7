/- Plain arithmetic on digits of 16 bits, the lowest first. No program is named here. -/
namespace Go.Proofs.Ytjkgeoipkcjobaa.Dgs
namespace Dg

def val : List Nat → Nat
  | [] => 0
  | d :: r => d + 65536 * val r

def Small (ds : List Nat) : Prop := ∀ d ∈ ds, d < 65536

def IsD (ds : List Nat) (a : Nat) : Prop := Small ds ∧ val ds = a ∧ ∀ h : ds ≠ [], ds.getLast h ≠ 0

theorem val_nil : val [] = 0 := rfl
theorem val_cons (d : Nat) (r : List Nat) : val (d :: r) = d + 65536 * val r := rfl

theorem pow_succ' (n : Nat) : 65536 ^ (n + 1) = 65536 * 65536 ^ n := by rw [Nat.pow_succ, Nat.mul_comm]
theorem pow_pos (n : Nat) : 0 < 65536 ^ n := Nat.pow_pos (by omega)

theorem val_append (xs ys : List Nat) : val (xs ++ ys) = val xs + 65536 ^ xs.length * val ys := by
  induction xs with
  | nil => simp [val]
  | cons d r ih =>
    simp only [List.cons_append, val, ih, List.length_cons, pow_succ', Nat.mul_add, Nat.mul_assoc, Nat.add_assoc]

theorem val_snoc (xs : List Nat) (d : Nat) : val (xs ++ [d]) = val xs + 65536 ^ xs.length * d := by
  rw [val_append]; simp [val]

theorem Small.append {xs ys : List Nat} (h : Small xs) (k : Small ys) : Small (xs ++ ys) := by
  intro d hd
  rcases List.mem_append.1 hd with hd | hd
  · exact h d hd
  · exact k d hd
theorem Small.snoc {xs : List Nat} {d : Nat} (h : Small xs) (k : d < 65536) : Small (xs ++ [d]) :=
  h.append (by intro e he; simp at he; omega)
theorem Small.nil : Small [] := by intro d hd; cases hd
theorem Small.take {xs : List Nat} (h : Small xs) (n : Nat) : Small (xs.take n) := fun d hd => h d (List.mem_of_mem_take hd)
theorem Small.drop {xs : List Nat} (h : Small xs) (n : Nat) : Small (xs.drop n) := fun d hd => h d (List.mem_of_mem_drop hd)
theorem Small.get {xs : List Nat} (h : Small xs) (i : Nat) (hi : i < xs.length) : xs[i] < 65536 := h _ (List.getElem_mem hi)
theorem Small.getD {xs : List Nat} (h : Small xs) (i : Nat) : xs.getD i 0 < 65536 := by
  rw [List.getD_eq_getElem?_getD]
  rcases Nat.lt_or_ge i xs.length with hi | hi
  · rw [List.getElem?_eq_getElem hi]; exact h.get i hi
  · rw [List.getElem?_eq_none hi]; simp

theorem val_lt {xs : List Nat} (h : Small xs) : val xs < 65536 ^ xs.length := by
  induction xs with
  | nil => simp [val]
  | cons d r ih =>
    have h1 := ih (fun e he => h e (List.mem_cons_of_mem _ he))
    have h2 := h d (List.mem_cons_self ..)
    simp only [val, List.length_cons, pow_succ']
    omega

theorem take_snoc (xs : List Nat) (k : Nat) (h : k < xs.length) : xs.take (k + 1) = xs.take k ++ [xs.getD k 0] := by
  rw [List.take_succ_eq_append_getElem h, List.getD_eq_getElem?_getD, List.getElem?_eq_getElem h]; rfl

/-- One digit more: whether there is one or not. -/
theorem val_take_succ (xs : List Nat) (k : Nat) : val (xs.take (k + 1)) = val (xs.take k) + 65536 ^ k * xs.getD k 0 := by
  rcases Nat.lt_or_ge k xs.length with h | h
  · rw [take_snoc xs k h, val_snoc, List.length_take, Nat.min_eq_left (by omega)]
  · rw [List.take_of_length_le (by omega), List.take_of_length_le h, List.getD_eq_getElem?_getD, List.getElem?_eq_none h]; simp

theorem val_split (xs : List Nat) (k : Nat) (h : k ≤ xs.length) : val xs = val (xs.take k) + 65536 ^ k * val (xs.drop k) := by
  have := val_append (xs.take k) (xs.drop k)
  rw [List.take_append_drop, List.length_take, Nat.min_eq_left h] at this
  exact this

theorem IsD.nil : IsD [] 0 := ⟨Small.nil, rfl, fun h => absurd rfl h⟩
theorem IsD.small {ds : List Nat} {a : Nat} (h : IsD ds a) : Small ds := h.1
theorem IsD.val {ds : List Nat} {a : Nat} (h : IsD ds a) : val ds = a := h.2.1
theorem IsD.lt {ds : List Nat} {a : Nat} (h : IsD ds a) : a < 65536 ^ ds.length := by rw [← h.2.1]; exact val_lt h.1

theorem val_ge_of_last {ds : List Nat} (h : ds ≠ []) (hl : ds.getLast h ≠ 0) : 65536 ^ (ds.length - 1) ≤ Dg.val ds := by
  have e : ds = ds.dropLast ++ [ds.getLast h] := (List.dropLast_concat_getLast h).symm
  have hv : Dg.val ds = Dg.val ds.dropLast + 65536 ^ ds.dropLast.length * ds.getLast h := by
    have := val_snoc ds.dropLast (ds.getLast h)
    rw [← e] at this; exact this
  rw [hv, List.length_dropLast]
  have h1 : 65536 ^ (ds.length - 1) * 1 ≤ 65536 ^ (ds.length - 1) * ds.getLast h := Nat.mul_le_mul_left _ (by omega)
  omega

theorem IsD.ge {ds : List Nat} {a : Nat} (h : IsD ds a) (hn : 0 < ds.length) : 65536 ^ (ds.length - 1) ≤ a := by
  have hne : ds ≠ [] := by intro e; subst e; simp at hn
  rw [← h.2.1]; exact val_ge_of_last hne (h.2.2 hne)

theorem IsD.len_le {ds : List Nat} {a n : Nat} (h : IsD ds a) (hn : a < 65536 ^ n) : ds.length ≤ n := by
  rcases Nat.lt_or_ge n ds.length with h1 | h1
  · have h2 := h.ge (by omega)
    have h3 : 65536 ^ n ≤ 65536 ^ (ds.length - 1) := Nat.pow_le_pow_right (by omega) (by omega)
    omega
  · exact h1

theorem IsD.len_gt {ds : List Nat} {a n : Nat} (h : IsD ds a) (hn : 65536 ^ n ≤ a) : n < ds.length := by
  rcases Nat.lt_or_ge n ds.length with h1 | h1
  · exact h1
  · have h2 := h.lt
    have h3 : 65536 ^ ds.length ≤ 65536 ^ n := Nat.pow_le_pow_right (by omega) h1
    omega

theorem IsD.zero {ds : List Nat} (h : IsD ds 0) : ds = [] := by
  have := h.len_le (n := 0) (by simp)
  exact List.eq_nil_of_length_eq_zero (by omega)
theorem IsD.zero_iff {ds : List Nat} {a : Nat} (h : IsD ds a) : ds.length = 0 ↔ a = 0 := by
  constructor
  · intro e
    have e2 : ds = [] := List.eq_nil_of_length_eq_zero e
    rw [← h.2.1, e2]; rfl
  · intro e; subst e; rw [h.zero]; rfl

theorem lt_of_len {xs ys : List Nat} {a b : Nat} (h : IsD xs a) (k : IsD ys b) (hl : xs.length < ys.length) : a < b := by
  have h1 := h.lt
  have h2 := k.ge (by omega)
  have h3 : 65536 ^ xs.length ≤ 65536 ^ (ys.length - 1) := Nat.pow_le_pow_right (by omega) (by omega)
  omega

/-- Where the digits from i + 1 on are the same, and the ones at i are not, the greater digit is the greater number's. -/
theorem lt_of_digit {xs ys : List Nat} (hx : Small xs) (i : Nat) (h1 : i < xs.length) (h2 : i < ys.length)
    (hd : xs.drop (i + 1) = ys.drop (i + 1)) (hlt : xs.getD i 0 < ys.getD i 0) : val xs < val ys := by
  have ex := val_split xs (i + 1) (by omega)
  have ey := val_split ys (i + 1) (by omega)
  rw [val_take_succ] at ex ey
  rw [hd] at ex
  have hb := val_lt (hx.take i)
  rw [List.length_take, Nat.min_eq_left (by omega)] at hb
  have h4 : 65536 ^ i * (xs.getD i 0 + 1) ≤ 65536 ^ i * ys.getD i 0 := Nat.mul_le_mul_left _ (by omega)
  rw [Nat.mul_add] at h4
  omega

theorem drop_eq_cons (xs : List Nat) (i : Nat) (h : i < xs.length) : xs.drop i = xs.getD i 0 :: xs.drop (i + 1) := by
  rw [List.drop_eq_getElem_cons h, List.getD_eq_getElem?_getD, List.getElem?_eq_getElem h]; rfl

def cmpN (a b : Nat) : Int := if a < b then -1 else if b < a then 1 else 0
theorem cmpN_lt {a b : Nat} (h : a < b) : cmpN a b = -1 := by simp [cmpN, h]
theorem cmpN_gt {a b : Nat} (h : b < a) : cmpN a b = 1 := by
  have h2 : ¬ a < b := by omega
  simp [cmpN, h, h2]
theorem cmpN_eq (a : Nat) : cmpN a a = 0 := by simp [cmpN]
theorem cmpN_eq' {a b : Nat} (h : a = b) : cmpN a b = 0 := by rw [h]; exact cmpN_eq b

/-- Noughts at the end are nothing. -/
theorem val_take_zero (xs : List Nat) (k : Nat) (h : xs.getD k 0 = 0) : val (xs.take (k + 1)) = val (xs.take k) := by
  rw [val_take_succ, h]; simp

theorem isD_take {xs : List Nat} (hs : Small xs) (k : Nat) (hk : k ≤ xs.length) (hv : val (xs.take k) = val xs) (hl : k = 0 ∨ xs.getD (k - 1) 0 ≠ 0) : IsD (xs.take k) (val xs) := by
  refine ⟨hs.take k, hv, fun hne => ?_⟩
  have hk0 : 0 < k := by
    rcases Nat.eq_zero_or_pos k with h | h
    · subst h; simp at hne
    · exact h
  rcases hl with h | h
  · omega
  · have e : (xs.take k).getLast hne = xs.getD (k - 1) 0 := by
      rw [List.getLast_eq_getElem, List.getD_eq_getElem?_getD]
      simp only [List.length_take, Nat.min_eq_left hk, List.getElem_take]
      rw [List.getElem?_eq_getElem (by omega)]
      rfl
    rw [e]; exact h

theorem isD_snoc {os : List Nat} {d : Nat} (h : Small os) (hd : d < 65536) (h0 : d ≠ 0) : IsD (os ++ [d]) (val os + 65536 ^ os.length * d) :=
  ⟨h.snoc hd, val_snoc os d, fun _ => by simpa using h0⟩

theorem pow_split {n k : Nat} (h : n < k) : 65536 ^ (k - n) = 65536 * 65536 ^ (k - (n + 1)) := by
  rw [← pow_succ', show k - (n + 1) + 1 = k - n by omega]

/-- One digit taken off the rest. -/
theorem step_val {os : List Nat} {X x : Nat} (h : val os + 65536 ^ os.length * X = x) : val (os ++ [X % 65536]) + 65536 ^ (os ++ [X % 65536]).length * (X / 65536) = x := by
  rw [val_snoc, List.length_append, List.length_singleton, pow_succ', Nat.add_assoc, Nat.mul_assoc, Nat.mul_left_comm 65536, ← Nat.mul_add, Nat.mod_add_div]
  exact h
theorem step_lt {n k X : Nat} (h : n < k) (hX : X < 65536 ^ (k - n)) : X / 65536 < 65536 ^ (k - (n + 1)) := by
  rw [pow_split h] at hX
  exact Nat.div_lt_of_lt_mul hX
theorem len_lt {n k X : Nat} (hn : n ≤ k) (h0 : 0 < X) (hX : X < 65536 ^ (k - n)) : n < k := by
  rcases Nat.lt_or_ge n k with h | h
  · exact h
  · have : k - n = 0 := by omega
    rw [this] at hX; simp at hX; omega

theorem val_set (os : List Nat) (j d : Nat) (hj : j < os.length) : val (os.set j d) + 65536 ^ j * os.getD j 0 = val os + 65536 ^ j * d := by
  have e1 := val_split os (j + 1) (by omega)
  have e2 := val_split (os.set j d) (j + 1) (by simp; omega)
  rw [val_take_succ] at e1 e2
  have t1 : (os.set j d).take j = os.take j := by rw [List.take_set_of_le (Nat.le_refl j)]
  have t2 : (os.set j d).drop (j + 1) = os.drop (j + 1) := by rw [List.drop_set_of_lt (by omega)]
  have t3 : (os.set j d).getD j 0 = d := by simp [List.getD_eq_getElem?_getD, hj]
  rw [t1, t2, t3] at e2
  omega

theorem val_replicate (n : Nat) : val (List.replicate n 0) = 0 := by
  induction n with
  | zero => rfl
  | succ n ih => rw [List.replicate_succ, val, ih]
theorem small_replicate (n : Nat) : Small (List.replicate n 0) := fun d hd => by
  rw [(List.mem_replicate.1 hd).2]; omega

/-- One step of the school's product. -/
theorem mul_step {xs ys os : List Nat} {i k C o x y S : Nat} (hj : i + k < os.length) (ho : o = os.getD (i + k) 0) (hy : y = ys.getD k 0) (hS : S = C + o + x * y)
    (hv : val os + 65536 ^ (i + k) * C = val (xs.take i) * val ys + 65536 ^ i * (x * val (ys.take k))) :
    val (os.set (i + k) (S % 65536)) + 65536 ^ (i + (k + 1)) * (S / 65536) = val (xs.take i) * val ys + 65536 ^ i * (x * val (ys.take (k + 1))) := by
  have h1 := val_set os (i + k) (S % 65536) hj
  rw [← ho] at h1
  have h2 : 65536 ^ (i + k) * (S % 65536) + 65536 ^ (i + (k + 1)) * (S / 65536) = 65536 ^ (i + k) * C + 65536 ^ (i + k) * o + 65536 ^ (i + k) * (x * y) := by
    rw [← Nat.add_assoc, pow_succ', Nat.mul_comm 65536, Nat.mul_assoc, ← Nat.mul_add, Nat.mod_add_div, hS, Nat.mul_add, Nat.mul_add]
  have h3 : 65536 ^ i * (x * val (ys.take (k + 1))) = 65536 ^ i * (x * val (ys.take k)) + 65536 ^ (i + k) * (x * y) := by
    rw [val_take_succ, ← hy, Nat.mul_add, Nat.mul_add, Nat.pow_add, Nat.mul_assoc, Nat.mul_left_comm x]
  omega

theorem mul_index {xs ys os : List Nat} {i k C : Nat} (hxs : Small xs) (hys : Small ys) (hi : i < xs.length) (hC : 0 < C)
    (hv : val os + 65536 ^ (i + k) * C = val (xs.take i) * val ys + 65536 ^ i * (xs.getD i 0 * val (ys.take k))) : k ≤ ys.length := by
  rcases Nat.lt_or_ge ys.length k with h | h
  · have e : val (ys.take k) = val ys := by rw [List.take_of_length_le (by omega)]
    rw [e, ← Nat.mul_assoc, ← Nat.add_mul, ← val_take_succ] at hv
    have h1 := val_lt (hxs.take (i + 1))
    rw [List.length_take, Nat.min_eq_left (by omega)] at h1
    have h2 := val_lt hys
    have h3 : val (xs.take (i + 1)) * val ys < 65536 ^ (i + 1) * 65536 ^ ys.length := Nat.mul_lt_mul'' h1 h2
    rw [← Nat.pow_add] at h3
    have h4 : 65536 ^ (i + 1 + ys.length) ≤ 65536 ^ (i + k) := Nat.pow_le_pow_right (by omega) (by omega)
    have h5 : 65536 ^ (i + k) * 1 ≤ 65536 ^ (i + k) * C := Nat.mul_le_mul_left _ hC
    omega
  · exact h

theorem mul_end {xs ys os : List Nat} {i k : Nat} (hk : ys.length ≤ k)
    (hv : val os + 65536 ^ (i + k) * 0 = val (xs.take i) * val ys + 65536 ^ i * (xs.getD i 0 * val (ys.take k))) : val os = val (xs.take (i + 1)) * val ys := by
  rw [List.take_of_length_le hk, ← Nat.mul_assoc, ← Nat.add_mul, ← val_take_succ] at hv
  omega

end Dg
end Go.Proofs.Ytjkgeoipkcjobaa.Dgs
