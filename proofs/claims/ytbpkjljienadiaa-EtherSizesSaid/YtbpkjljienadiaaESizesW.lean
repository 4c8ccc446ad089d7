/- EtherSizes, whatever the frame and the bytes. -/
import Derived.Test.YtbpkjljienadiaaESizes
namespace Go.Proofs.Ytbpkjljienadiaa
open Go.RowKit Go.Joins

theorem sizes_long (f : Fr) (p q : Option Addr) (n c m d : Nat) (w : World) (h : 1000 < n ∨ (n ≤ 1000 ∧ 400 < m)) :
    Calls Try.prog 8 #[FV f (.slice p n c), .slice q m d] w fun e w' => e = .returned (.bool true) ∧ Below w.heap.size w w' := by
  have HH := head_ret
  have HB0 : Hid (Boxed (w.alloc (.cells (FC f (.slice p n c)) 26)) w.heap.size f (.slice p n c)) := Lib.hid (heap_alloc_new w _)
  unfold FC at HB0
  unfold FV
  rcases h with h | ⟨h, h2⟩
  · go_enter Try.func8, Try.ntmps8
    go_wp2_with (go_at_call 9; (with_reducible refine (HH.go _).mono ?_); rintro e w1 ⟨rfl, hb⟩; have c19 := (HB0.out.below hb).c19; have HB := Lib.hid (bTr (bAl (bRef w) _) hb); clear hb)
    go_ret
    exact ⟨rfl, HB.out⟩
  · have hd1 : decide ((1000 : Int) < (n : Int)) = false := decide_eq_false (by omega)
    have hd2 : decide ((400 : Int) < (m : Int)) = true := decide_eq_true (by omega)
    go_enter Try.func8, Try.ntmps8
    go_wp2_with (go_at_call 9; (with_reducible refine (HH.go _).mono ?_); rintro e w1 ⟨rfl, hb⟩; have c19 := (HB0.out.below hb).c19; have HB := Lib.hid (bTr (bAl (bRef w) _) hb); clear hb)
    go_ret
    exact ⟨rfl, HB.out⟩

theorem sizes_bad (f : Fr) (p q : Option Addr) (n c m d x : Nat) (w : World) (hn : n ≤ 1000) (hm : m ≤ 400) (hx : (((x : Nat) : Int) != 0) = true)
    (HK : Hid (Ret 15 #[.agg (FC f (.slice p n c))] (.int .i64 (x : Int)))) :
    Calls Try.prog 8 #[FV f (.slice p n c), .slice q m d] w fun e w' => e = .returned (.bool true) ∧ Below w.heap.size w w' := by
  have HH := head_ret
  have HB0 : Hid (Boxed (w.alloc (.cells (FC f (.slice p n c)) 26)) w.heap.size f (.slice p n c)) := Lib.hid (heap_alloc_new w _)
  have hd1 : decide ((1000 : Int) < (n : Int)) = false := decide_eq_false (by omega)
  have hd2 : decide ((400 : Int) < (m : Int)) = false := decide_eq_false (by omega)
  unfold FC at HB0
  unfold FV
  go_enter Try.func8, Try.ntmps8
  go_wp2_with (first
    | ((with_reducible refine at_loadG ?_); refine wpList_loadG rfl _ rfl w.heap.size rfl _ _ HX.out.eq rfl ?_)
    | (go_at_call 9; (with_reducible refine (HH.go _).mono ?_); rintro e w1 ⟨rfl, hb⟩; have HX := Lib.hid (HB0.out.below hb); have c19 := HX.out.c19; have HB := Lib.hid (bTr (bAl (bRef w) _) hb); clear hb)
    | (go_at_call 15; (with_reducible refine (HK.out.go _).mono ?_); rintro e w2 ⟨rfl, hb⟩; replace HB := Lib.hid (bTr HB.out hb); clear hb))
  go_ret
  exact ⟨rfl, HB.out⟩

theorem sizes_walk (f : Fr) (u bv : Value) (xs : List Nat) (w : World) (_ : f.Wf) (hu : BArg w u f.data) (hx : BArg w bv xs) :
    Calls Try.prog 8 #[FV f u, bv] w fun e w' => e = .returned (.bool true) ∧ Below w.heap.size w w' := by
  obtain ⟨p, c, rfl⟩ := hu.slice
  obtain ⟨q, d, rfl⟩ := hx.slice
  rcases Nat.lt_or_ge 1000 f.data.length with hn | hn
  · exact sizes_long f p q _ c _ d w (.inl hn)
  rcases Nat.lt_or_ge 400 xs.length with hm | hm
  · exact sizes_long f p q _ c _ d w (.inr ⟨hn, hm⟩)
  have hk := check_ret f p _ c rfl (by omega)
  by_cases h0 : f.chk = 0
  · rw [h0] at hk
    have hs := size_ret f p _ c rfl (by omega)
    have hs64 := f.size_ge
    have hle : f.size ≤ (f.with (f.data ++ xs)).size := by
      show max (20 + f.data.length + f.extra) 64 ≤ max (20 + (f.data ++ xs).length + f.extra) 64
      rw [List.length_append]; omega
    have hs' : ∀ (p' : Option Addr) (n' c' : Nat), n' = f.data.length + xs.length → Ret 18 #[.agg (FC (f.with (f.data ++ xs)) (.slice p' n' c'))] (.int .i64 (((f.with (f.data ++ xs)).size : Nat) : Int)) := fun p' n' c' e =>
      size_ret (f.with (f.data ++ xs)) p' n' c' (by rw [e]; exact List.length_append) (by omega)
    by_cases hsh : f.data.length < 50 ∨ (50 ≤ f.data.length ∧ f.tg = true) ∨ (50 ≤ f.data.length ∧ f.tg = false ∧ f.mn = true)
    · exact sizes_short f p q _ c _ d xs w hn hm (Lib.hid hu) (Lib.hid hx) (Lib.hid (by omega)) (Lib.hid (by omega)) (Lib.hid hk) _ _ (Lib.hid hs) (Lib.hid hs') (by omega) (by omega) hsh
    · have h50 : 50 ≤ f.data.length := by omega
      have ht : f.tg = false := by
        cases e : f.tg with
        | false => rfl
        | true => exact absurd (.inr (.inl ⟨h50, e⟩)) hsh
      have hmn : f.mn = false := by
        cases e : f.mn with
        | false => rfl
        | true => exact absurd (.inr (.inr ⟨h50, ht, e⟩)) hsh
      have e0 : f.size = 20 + f.data.length := by unfold Fr.size Fr.extra; rw [ht, hmn]; simp only [if_false, Bool.false_eq_true]; omega
      have e1 : f.tagged.size = f.size + 4 := by
        show max (20 + f.data.length + ((if true = true then 4 else 0) + (if f.mn then 6 else 0))) 64 = _
        rw [hmn, e0]; simp only [if_true, if_false, Bool.false_eq_true]; omega
      have e2 : f.many.size = f.size + 6 := by
        show max (20 + f.data.length + ((if f.tg then 4 else 0) + (if true = true then 6 else 0))) 64 = _
        rw [ht, e0]; simp only [if_true, if_false, Bool.false_eq_true]; omega
      have e3 : (f.with (f.data ++ xs)).size = f.size + xs.length := by
        show max (20 + (f.data ++ xs).length + ((if f.tg then 4 else 0) + (if f.mn then 6 else 0))) 64 = _
        rw [ht, hmn, e0, List.length_append]; simp only [if_false, Bool.false_eq_true]; omega
      have ht1 := size_ret f.tagged p _ c rfl (by show f.data.length < _; omega)
      have hm1 := size_ret f.many p _ c rfl (by show f.data.length < _; omega)
      rw [e1] at ht1
      rw [e2] at hm1
      exact sizes_plain f p q _ c _ d xs w hn hm (Lib.hid hu) (Lib.hid hx) (Lib.hid (by omega)) (Lib.hid (by omega)) (Lib.hid hk) _ _ (Lib.hid hs) (Lib.hid hs') (by omega) (by omega) h50 (Lib.hid ht) (Lib.hid hmn) (Lib.hid (by rw [e3]; omega)) (by omega) (Lib.hid ht1) (Lib.hid hm1)
  · exact sizes_bad f p q _ c _ d f.chk w hn hm (bne_of h0) (Lib.hid hk)

end Go.Proofs.Ytbpkjljienadiaa
