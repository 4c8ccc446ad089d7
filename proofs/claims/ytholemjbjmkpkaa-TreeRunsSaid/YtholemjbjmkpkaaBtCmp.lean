/- Package best: Cmp of two clocks, and of two vectors. -/
import Derived.Test.YtholemjbjmkpkaaBtMath
namespace Go.Proofs.Ytholemjbjmkpkaa
open Go.RowKit Go.Joins

theorem nan_ret (x : Int) : RetQ 43 #[.int .i64 x] (.bool false) := fun w => by
  have h : (x != x) = false := by simp
  go_enter Try.func43, Try.ntmps43
  go_wp2_with fail
  go_ret
  exact ⟨rfl, rfl⟩
theorem compare_ret (a b : Int) : RetQ 32 #[.int .i64 a, .int .i64 b] (.int .i64 (c1 a b)) := fun w => by
  unfold c1
  by_cases h1 : a < b
  · rw [if_pos h1]
    go_enter Try.func32, Try.ntmps32
    go_wp2_with (go_at_call 43; (with_reducible refine ((nan_ret _).go _).mono ?_); rintro e w' ⟨rfl, rfl⟩)
    go_ret
    exact ⟨rfl, rfl⟩
  · rw [if_neg h1]
    by_cases h2 : b < a
    · rw [if_pos h2]
      go_enter Try.func32, Try.ntmps32
      go_wp2_with (go_at_call 43; (with_reducible refine ((nan_ret _).go _).mono ?_); rintro e w' ⟨rfl, rfl⟩)
      go_ret
      exact ⟨rfl, rfl⟩
    · rw [if_neg h2]
      go_enter Try.func32, Try.ntmps32
      go_wp2_with (go_at_call 43; (with_reducible refine ((nan_ret _).go _).mono ?_); rintro e w' ⟨rfl, rfl⟩)
      go_ret
      exact ⟨rfl, rfl⟩
/-- What is left of a row of which so many are zero. -/
def OrRel (xs : List Int) (iv : Value) : Prop := ∃ k : Nat, k ≤ xs.length ∧ iv = .int .i64 (k : Int) ∧ orC (xs.drop k) = orC xs
theorem or_step {xs : List Int} {k : Nat} (hk : k < xs.length) : orC (xs.drop k) = if xs.getD k 0 = 0 then orC (xs.drop (k + 1)) else xs.getD k 0 := by
  rw [List.drop_eq_getElem_cons hk, orC_cons, List.getD_eq_getElem?_getD, List.getElem?_eq_getElem hk]
  rfl
theorem or_some (b o c : Nat) (xs : List Int) (w : World) (hl : xs.length ≤ 140737488355328) (hr : RdL w b o xs) :
    Calls Try.prog 31 #[.slice (some ⟨b, o, none⟩) xs.length c] w fun e w' => e = .returned (.int .i64 (orC xs)) ∧ w = w' := by
  obtain ⟨n, hn⟩ : ∃ n, n = xs.length := ⟨_, rfl⟩
  rw [← hn] at hl ⊢
  have Hn := Lib.hid hn
  have Hr := Lib.hid hr
  obtain ⟨z, hz⟩ : ∃ z, z = orC xs := ⟨_, rfl⟩
  rw [← hz]
  have HZ := Lib.hid hz
  clear hn hr hz
  go_enter Try.func31, Try.ntmps31
  go_wp2_with fail
  go_loop [8] (fun iv => OrRel xs iv) (fun iv => n - (intOf iv).toNat)
  case atStart => exact ⟨0, by omega, rfl, rfl⟩
  case round =>
    obtain ⟨k, hk, rfl, hall⟩ := hrel
    have Hall := Lib.hid hall
    rw [← Hn.out] at hk
    clear hall
    rcases Nat.lt_or_ge k n with g | g
    · have hd : decide ((k : Int) < (n : Int)) = true := decide_eq_true (by omega)
      have hcell := (Hr.out (by rw [← Hn.out]; omega)).2 k (by rw [← Hn.out]; exact g)
      have HS := Lib.hid (or_step (xs := xs) (k := k) (by rw [← Hn.out]; exact g))
      obtain ⟨y, hy⟩ : ∃ y, y = xs.getD k 0 := ⟨_, rfl⟩
      rw [← hy] at hcell
      have HY := Lib.hid hy
      clear hy
      by_cases h0 : y = 0
      · have hb : (y != 0) = false := by rw [h0]; rfl
        have H0 := Lib.hid h0
        clear h0
        go_wp2_with fail
        go_round
        case rel => exact ⟨k + 1, by rw [← Hn.out]; omega, by go_num, by rw [← Hall.out, HS.out, ← HY.out, if_pos H0.out]⟩
        case measure => simp [intOf]; omega
      · have hb : (y != 0) = true := by rw [bne_iff_ne]; exact h0
        have H0 := Lib.hid (show y = z by rw [HZ.out, ← Hall.out, HS.out, ← HY.out, if_neg h0])
        clear h0
        go_wp2_with fail
        go_ret
        exact ⟨by rw [H0.out]; rfl, rfl⟩
    · obtain rfl : k = n := by omega
      have H0 := Lib.hid (show z = 0 by rw [HZ.out, ← Hall.out, Hn.out, List.drop_length]; rfl)
      go_wp2_with fail
      go_ret
      exact ⟨by rw [H0.out]; rfl, rfl⟩
/-- A row of the call's own. -/
theorem or_row (ys : List Int) (cs : Array Value) (h : cs = (ys.map (Value.int .i64)).toArray) (n : Nat) (hn : n = ys.length) (h0 : 0 < n) (hl : n ≤ 100) (wx : World) :
    Calls Try.prog 31 #[.slice (some ⟨wx.heap.size, 0, none⟩) n n] (wx.alloc (.cells cs 3)) fun e w1 => e = .returned (.int .i64 (orC ys)) ∧ wx.alloc (.cells cs 3) = w1 := by
  subst hn
  obtain ⟨fr, hr⟩ := IRow.new wx ys cs h
  refine or_some _ _ _ ys _ (by omega) (fun _ => ⟨lt_of_heap hr, fun k hk => ?_⟩)
  rw [Nat.zero_add, cell_of_row _ _ k _ _ _ hr]
  simp [List.getD_eq_getElem?_getD, List.getElem?_eq_getElem hk]

/-- Its cells. -/
def PC (p : Pri) : Array Value := #[.int .i64 p.one, .int .i64 p.cls, .int .i64 p.two, .int .i64 p.id]
def VC (v : Vc) : Array Value := #[.int .i64 v.r.one, .int .i64 v.r.cls, .int .i64 v.r.two, .int .i64 v.r.id, .int .i64 v.steps, .int .i64 v.from_, .int .i64 v.port, .int .i64 v.at_]
theorem bs4_op {a : Act} {o : Oper} (s0 s1 s2 s3 : Operand) (ho : o.op = .buildSlice 40 4 #[(0, s0), (1, s1), (2, s2), (3, s3)]) {x0 x1 x2 x3 : Int} (h0 : a.eval s0 = .int .i64 x0) (h1 : a.eval s1 = .int .i64 x1) (h2 : a.eval s2 = .int .i64 x2) (h3 : a.eval s3 = .int .i64 x3) (W : World) :
    (execOp a.eval o).run Try.prog W = .ok (.value (.slice (some ⟨W.heap.size, 0, none⟩) 4 4)) (W.alloc (.cells #[.int .i64 x0, .int .i64 x1, .int .i64 x2, .int .i64 x3] 3)) := by
  unfold execOp
  simp only [ho]
  simp only [List.map_toArray, List.map_cons, List.map_nil, h0, h1, h2, h3]
  kernel_rfl
theorem bs5_op {a : Act} {o : Oper} (s0 s1 s2 s3 s4 : Operand) (ho : o.op = .buildSlice 40 5 #[(0, s0), (1, s1), (2, s2), (3, s3), (4, s4)]) {x0 x1 x2 x3 x4 : Int} (h0 : a.eval s0 = .int .i64 x0) (h1 : a.eval s1 = .int .i64 x1) (h2 : a.eval s2 = .int .i64 x2) (h3 : a.eval s3 = .int .i64 x3) (h4 : a.eval s4 = .int .i64 x4) (W : World) :
    (execOp a.eval o).run Try.prog W = .ok (.value (.slice (some ⟨W.heap.size, 0, none⟩) 5 5)) (W.alloc (.cells #[.int .i64 x0, .int .i64 x1, .int .i64 x2, .int .i64 x3, .int .i64 x4] 3)) := by
  unfold execOp
  simp only [ho]
  simp only [List.map_toArray, List.map_cons, List.map_nil, h0, h1, h2, h3, h4]
  kernel_rfl

end Go.Proofs.Ytholemjbjmkpkaa
