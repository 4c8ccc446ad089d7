/- Which of two clocks is the better one, in plain numbers: rows of ints, the first that differs counts. No program is named here. -/
namespace Go.Proofs.Ytihddpoaemhlnaa

def c1 (a b : Int) : Int := if a < b then -1 else if b < a then 1 else 0
/-- The first that isn't zero. -/
def orC : List Int → Int
  | [] => 0
  | x :: l => if x = 0 then orC l else x
/-- The first that differs counts. -/
def lx : List Int → List Int → Int
  | a :: l, b :: m => if a < b then -1 else if b < a then 1 else lx l m
  | _, _ => 0
theorem orC_cons (x : Int) (l : List Int) : orC (x :: l) = if x = 0 then orC l else x := rfl
theorem orC_c1 (a b : Int) (l : List Int) : orC (c1 a b :: l) = if a < b then -1 else if b < a then 1 else orC l := by
  rw [orC_cons]; unfold c1
  split
  · rfl
  · split
    · rfl
    · rfl
theorem lx_cons (a b : Int) (l m : List Int) : lx (a :: l) (b :: m) = if a < b then -1 else if b < a then 1 else lx l m := rfl
theorem lx_nil : lx [] [] = 0 := rfl
theorem lx_self : ∀ l : List Int, lx l l = 0
  | [] => rfl
  | a :: l => by rw [lx_cons, if_neg (by omega), if_neg (by omega)]; exact lx_self l
theorem lx_vals : ∀ l m : List Int, lx l m = -1 ∨ lx l m = 0 ∨ lx l m = 1
  | [], [] => .inr (.inl rfl)
  | [], _ :: _ => .inr (.inl rfl)
  | _ :: _, [] => .inr (.inl rfl)
  | a :: l, b :: m => by
    rw [lx_cons]
    split
    · exact .inl rfl
    · split
      · exact .inr (.inr rfl)
      · exact lx_vals l m
theorem lx_anti : ∀ l m : List Int, lx l m = -lx m l
  | [], [] => rfl
  | [], _ :: _ => rfl
  | _ :: _, [] => rfl
  | a :: l, b :: m => by
    rw [lx_cons, lx_cons]
    have := lx_anti l m
    split
    · rw [if_neg (by omega)]
    · split
      · rfl
      · exact this
theorem lx_trans : ∀ l m n : List Int, l.length = m.length → m.length = n.length → lx l m < 0 → lx m n < 0 → lx l n < 0
  | [], [], [], _, _, h, _ => by simp [lx] at h
  | a :: l, b :: m, c :: n, h1, h2, h3, h4 => by
    rw [lx_cons] at h3 h4 ⊢
    have ih := lx_trans l m n (by simpa using h1) (by simpa using h2)
    split at h3
    · split at h4
      · rw [if_pos (by omega)]; decide
      · split at h4
        · omega
        · rw [if_pos (by omega)]; decide
    · split at h3
      · omega
      · split at h4
        · rw [if_pos (by omega)]; decide
        · split at h4
          · omega
          · rw [if_neg (by omega), if_neg (by omega)]; exact ih h3 h4
theorem lx_zero : ∀ l m : List Int, l.length = m.length → lx l m = 0 → l = m
  | [], [], _, _ => rfl
  | a :: l, b :: m, h, k => by
    rw [lx_cons] at k
    split at k
    · omega
    · split at k
      · omega
      · rw [lx_zero l m (by simpa using h) k, show a = b by omega]
theorem lx_le_trans {l m n : List Int} (h1 : l.length = m.length) (h2 : m.length = n.length) (h3 : lx l m ≤ 0) (h4 : lx m n ≤ 0) : lx l n ≤ 0 := by
  rcases Int.lt_or_eq_of_le h3 with a | a
  · rcases Int.lt_or_eq_of_le h4 with b | b
    · exact Int.le_of_lt (lx_trans l m n h1 h2 a b)
    · rw [← lx_zero m n h2 b]; exact h3
  · rw [lx_zero l m h1 a]; exact h4
theorem lx_lt_le {l m n : List Int} (h1 : l.length = m.length) (h2 : m.length = n.length) (h3 : lx l m < 0) (h4 : lx m n ≤ 0) : lx l n < 0 := by
  rcases Int.lt_or_eq_of_le h4 with b | b
  · exact lx_trans l m n h1 h2 h3 b
  · rw [← lx_zero m n h2 b]; exact h3
theorem lx_le_lt {l m n : List Int} (h1 : l.length = m.length) (h2 : m.length = n.length) (h3 : lx l m ≤ 0) (h4 : lx m n < 0) : lx l n < 0 := by
  rcases Int.lt_or_eq_of_le h3 with b | b
  · exact lx_trans l m n h1 h2 b h4
  · rw [lx_zero l m h1 b]; exact h4
theorem lx_append : ∀ l m l' m' : List Int, l.length = m.length → lx (l ++ l') (m ++ m') = if lx l m = 0 then lx l' m' else lx l m
  | [], [], l', m', _ => by rw [lx_nil, if_pos rfl]; rfl
  | a :: l, b :: m, l', m', h => by
    rw [List.cons_append, List.cons_append, lx_cons, lx_cons, lx_append l m l' m' (by simpa using h)]
    split
    · rfl
    · split
      · rfl
      · rfl

/-- A clock in plain numbers, and what is said of a best one. -/
structure Pri where
  one : Int
  cls : Int
  two : Int
  id : Int
structure Vc where
  r : Pri
  steps : Int
  from_ : Int
  port : Int
  at_ : Int
def Pri.row (p : Pri) : List Int := [p.one, p.cls, p.two, p.id]
def Vc.tail (v : Vc) : List Int := [v.steps, v.from_, v.port, v.at_]
def Vc.row (v : Vc) : List Int := [v.r.one, v.r.cls, v.r.two, v.r.id, v.steps, v.from_, v.port, v.at_]
def Pri.cmp (a b : Pri) : Int := lx a.row b.row
def Vc.cmp (a b : Vc) : Int := lx a.row b.row
theorem Vc.row_eq (v : Vc) : v.row = v.r.row ++ v.tail := rfl
theorem Vc.row_len (v : Vc) : v.row.length = 8 := rfl
theorem Pri.row_len (v : Pri) : v.row.length = 4 := rfl
theorem Vc.cmp_eq (a b : Vc) : a.cmp b = if a.r.cmp b.r = 0 then lx a.tail b.tail else a.r.cmp b.r := by
  unfold Vc.cmp Pri.cmp
  rw [Vc.row_eq, Vc.row_eq]
  exact lx_append _ _ _ _ rfl
theorem Pri.cmp_or (a b : Pri) : orC [c1 a.one b.one, c1 a.cls b.cls, c1 a.two b.two, c1 a.id b.id] = a.cmp b := by
  unfold Pri.cmp Pri.row
  rw [orC_c1, orC_c1, orC_c1, orC_c1, lx_cons, lx_cons, lx_cons, lx_cons, lx_nil]
  rfl
theorem Vc.cmp_or (a b : Vc) : orC [a.r.cmp b.r, c1 a.steps b.steps, c1 a.from_ b.from_, c1 a.port b.port, c1 a.at_ b.at_] = a.cmp b := by
  rw [Vc.cmp_eq, orC_cons, orC_c1, orC_c1, orC_c1, orC_c1]
  unfold Vc.tail
  rw [lx_cons, lx_cons, lx_cons, lx_cons, lx_nil]
  rfl
theorem c1_vals (a b : Int) : c1 a b = -1 ∨ c1 a b = 0 ∨ c1 a b = 1 := by
  unfold c1
  split
  · exact .inl rfl
  · split
    · exact .inr (.inr rfl)
    · exact .inr (.inl rfl)
theorem Pri.cmp_vals (a b : Pri) : a.cmp b = -1 ∨ a.cmp b = 0 ∨ a.cmp b = 1 := lx_vals _ _
theorem Vc.cmp_vals (a b : Vc) : a.cmp b = -1 ∨ a.cmp b = 0 ∨ a.cmp b = 1 := lx_vals _ _
theorem Pri.eq_of {a b : Pri} (h : a.cmp b = 0) : a = b := by
  have := lx_zero a.row b.row rfl h
  unfold Pri.row at this
  cases a; cases b
  simp at this
  obtain ⟨rfl, rfl, rfl, rfl⟩ := this
  rfl

end Go.Proofs.Ytihddpoaemhlnaa
