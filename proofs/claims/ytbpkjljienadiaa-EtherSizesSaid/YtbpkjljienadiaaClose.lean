/- Bytes with their check behind them: the program's Close, the reference's. -/
import Derived.Test.YtbpkjljienadiaaCopy
namespace Go.Proofs.Ytbpkjljienadiaa
open Go.RowKit Go.Joins

def CloseRel (w : World) (xs : List Nat) (s : Nat) (v iv : Value) (wr : World) : Prop :=
  ∃ j : Nat, j ≤ 4 ∧ iv = .int .i64 (j : Int) ∧ OwnB w wr v (xs ++ (Crc.le4 s).take j)
theorem own_eq {w wr : World} {v : Value} {a b : List Nat} (h : OwnB w wr v a) (e : a = b) : OwnB w wr v b := e ▸ h

theorem below_grown {w w' : World} (h : w.grownBy w' none) : Below w.heap.size w w' := (bRef w).grown h (Nat.le_refl _) (fun k hk => by cases hk)
theorem OwnB.made {w w1 w2 : World} {g c : Nat} (hown : w2.ownsRow w.heap.size 5 1 (.slice (some ⟨g, 0, none⟩) 0 c) 0 []) (hg : w1.grownBy w2 none) (hb : Below w.heap.size w w1) : OwnB w w2 (.slice (some ⟨g, 0, none⟩) 0 c) [] :=
  ⟨hown, hb.grown hg hb.size (fun k hk => by cases hk), fun x hx => by simp at hx, by simp⟩

theorem len_take4 {xs : List Nat} (s j : Nat) {y : Nat} (h : xs.length ≤ 140737488355000) : (xs ++ (Crc.le4 s).take j).length + [y].length ≤ 140737488355328 := by
  have e : ((Crc.le4 s).take j).length ≤ 4 := by rw [List.length_take]; exact Nat.min_le_right _ _
  rw [List.length_append]; simp only [List.length_singleton]; omega

set_option maxHeartbeats 2000000 in
theorem close_any {v : Value} {xs : List Nat} {w : World} (h : BArg w v xs) (hl : xs.length ≤ 140737488355000) :
    Calls Try.prog 24 #[v] w (OwnPost w (Crc.close xs)) := by
  have hs := Crc.sum_lt xs h.1
  obtain ⟨i0, hi, hz0, hz1, hz2⟩ := info_parts Try.infoU8
  have H := Lib.hid h
  obtain ⟨p, c, hv⟩ := h.slice
  have Hs := Lib.hid (show Crc.close xs = xs ++ Crc.le4 (Crc.sum xs) from rfl)
  have HS := sum_any h (by omega)
  unfold SumPost at HS
  have HS' := Lib.hid HS
  subst hv
  clear h HS
  obtain ⟨n, hn⟩ : ∃ n, n = xs.length := ⟨_, rfl⟩
  rw [← hn] at hl H HS' ⊢
  have Hn := Lib.hid hn
  clear hn
  have hl1 : ([] : List Nat).length + xs.length ≤ 140737488355328 := by rw [← Hn.out]; simp; omega
  have HL1 := Lib.hid hl1
  clear hl1
  obtain ⟨s, hse⟩ : ∃ s, s = Crc.sum xs := ⟨_, rfl⟩
  rw [← hse] at hs HS' Hs
  clear hse
  go_enter Try.func24, Try.ntmps24
  go_wp2_with (first
    | (go_at_call 34; (with_reducible refine HS'.out.mono ?_); rintro e w1 ⟨rfl, hb⟩; have HB := Lib.hid hb; clear hb)
    | (at_make; refine wpList_make_own _ rfl _ _ 24 rfl w.heap.size 5 i0 (.int .u8 0) 1 Try.underlying24 hi hz0 hz1 .i64 .i64 _ (n + 4) rfl rfl (by omega) (by rw [hz2]; omega) (by unfold maxLen; omega) HB.out.size ?_; intro w2 hown hgrow; have HO := Lib.hid (OwnB.made hown hgrow HB.out); have HA := Lib.hid ((H.out.below HB.out).below (below_grown hgrow)); clear hown hgrow)
    | (at_builtin; refine wpList_app rfl _ _ rfl w _ (.slice (some ⟨w1.heap.size, 0, none⟩) 0 (n + 4)) (.slice p n c) [] xs rfl rfl HO.out HA.out HL1.out ?_; intro v3 w3 hown))
  go_loopw [4, 15] (fun v iv wr => CloseRel w xs s v iv wr) (fun _ iv _ => 4 - (intOf iv).toNat)
  case atStart => exact ⟨0, by omega, rfl, own_eq hown (by simp)⟩
  case round =>
    obtain ⟨j, hj, rfl, hown⟩ := hrel
    rcases Nat.lt_or_ge j 4 with g | g
    · have HW := Lib.hid hown
      clear hown HO HA
      have hl4 : (xs ++ (Crc.le4 s).take j).length + [0].length ≤ 140737488355328 := len_take4 s j (by rw [← Hn.out]; exact hl)
      have HL4 := Lib.hid hl4
      clear hl4
      have hj4 : j = 0 ∨ j = 1 ∨ j = 2 ∨ j = 3 := by omega
      rcases hj4 with rfl | rfl | rfl | rfl
      · go_wp2_with (at_builtin; refine wpList_app rfl _ _ rfl w _ u4 (.slice (some ⟨wr.heap.size, 0, none⟩) 1 1) _ [s % 256] rfl rfl (HW.out.alloc _) (BArg.one wr _ (by omega) _ (by omega) _) HL4.out ?_; intro v3 w3 hown)
        go_roundw
        case rel => exact ⟨1, by omega, rfl, own_eq hown (by simp [Crc.le4])⟩
        case measure => simp [intOf]
      · go_wp2_with (at_builtin; refine wpList_app rfl _ _ rfl w _ u4 (.slice (some ⟨wr.heap.size, 0, none⟩) 1 1) _ [s / 256 % 256] rfl rfl (HW.out.alloc _) (BArg.one wr _ (by omega) _ (by omega) _) HL4.out ?_; intro v3 w3 hown)
        go_roundw
        case rel => exact ⟨2, by omega, rfl, own_eq hown (by simp [Crc.le4])⟩
        case measure => simp [intOf]
      · go_wp2_with (at_builtin; refine wpList_app rfl _ _ rfl w _ u4 (.slice (some ⟨wr.heap.size, 0, none⟩) 1 1) _ [s / 65536 % 256] rfl rfl (HW.out.alloc _) (BArg.one wr _ (by omega) _ (by omega) _) HL4.out ?_; intro v3 w3 hown)
        go_roundw
        case rel => exact ⟨3, by omega, rfl, own_eq hown (by simp [Crc.le4])⟩
        case measure => simp [intOf]
      · go_wp2_with (at_builtin; refine wpList_app rfl _ _ rfl w _ u4 (.slice (some ⟨wr.heap.size, 0, none⟩) 1 1) _ [s / 16777216 % 256] rfl rfl (HW.out.alloc _) (BArg.one wr _ (by omega) _ (by omega) _) HL4.out ?_; intro v3 w3 hown)
        go_roundw
        case rel => exact ⟨4, by omega, rfl, own_eq hown (by simp [Crc.le4])⟩
        case measure => simp [intOf]
    · obtain rfl : j = 4 := by omega
      go_wp2_with fail
      go_ret
      exact ⟨_, rfl, own_eq hown (by rw [Hs.out]; rfl)⟩

def RCloseRel (w : World) (xs : List Nat) (s : Nat) (v xv iv : Value) (wr : World) : Prop :=
  ∃ j : Nat, j ≤ 4 ∧ iv = .int .i64 (j : Int) ∧ xv = .int .u32 ((s / 256 ^ j : Nat) : Int) ∧ OwnB w wr v (xs ++ (Crc.le4 s).take j)
theorem rclose_go {w wr : World} {xs : List Nat} {s d j : Nat} {xi ji : Int} {v : Value} (hj : j < 4) (hji : ji = ((j + 1 : Nat) : Int)) (hxi : xi = ((s / 256 ^ (j + 1) : Nat) : Int)) (hd : (Crc.le4 s)[j]? = some d) (h : OwnB w wr v ((xs ++ (Crc.le4 s).take j) ++ [d])) : RCloseRel w xs s v (.int .u32 xi) (.int .i64 ji) wr := by
  subst hji hxi
  refine ⟨j + 1, by omega, rfl, rfl, own_eq h ?_⟩
  rw [List.append_assoc, List.take_add_one, hd]; rfl

set_option maxHeartbeats 2000000 in
theorem rclose_any {v : Value} {xs : List Nat} {w : World} (h : BArg w v xs) (hl : xs.length ≤ 140737488355000) :
    Calls Try.prog 20 #[v] w (OwnPost w (Crc.close xs)) := by
  have hs := Crc.sum_lt xs h.1
  have H := Lib.hid h
  obtain ⟨p, c, hv⟩ := h.slice
  have Hs := Lib.hid (show Crc.close xs = xs ++ Crc.le4 (Crc.sum xs) from rfl)
  have HS : ∀ w', Below w.heap.size w w' → Calls Try.prog 32 #[v] w' (SumPost w' xs) := fun w' hb => rsum_any (h.below hb) (by omega)
  unfold SumPost at HS
  have HS' := Lib.hid HS
  subst hv
  clear h HS
  obtain ⟨n, hn⟩ : ∃ n, n = xs.length := ⟨_, rfl⟩
  rw [← hn] at hl H HS' ⊢
  have Hn := Lib.hid hn
  clear hn
  have hl1 : ([] : List Nat).length + xs.length ≤ 140737488355328 := by rw [← Hn.out]; simp; omega
  have HL1 := Lib.hid hl1
  clear hl1
  obtain ⟨s, hse⟩ : ∃ s, s = Crc.sum xs := ⟨_, rfl⟩
  rw [← hse] at hs HS' Hs
  clear hse
  go_enter Try.func20, Try.ntmps20
  go_wp2_with (first
    | (go_at_call 32; (with_reducible refine (HS'.out _ HO.out.bel).mono ?_); rintro e w4 ⟨rfl, hb⟩; replace HO := Lib.hid (HO.out.below hb); clear hb)
    | (at_builtin; refine wpList_app rfl _ _ rfl w _ (.slice (some ⟨w.heap.size, 0, none⟩) 0 0) (.slice p n c) [] xs rfl rfl (OwnB.start w) (H.out.below (bAl (bRef w) _)) HL1.out ?_; intro v3 w3 hown; have HO := Lib.hid hown; clear hown))
  go_loopw [3, 4, 5] (fun v xv iv wr => RCloseRel w xs s v xv iv wr) (fun _ _ iv _ => 4 - (intOf iv).toNat)
  case atStart => exact ⟨0, by omega, rfl, by simp, own_eq HO.out (by simp)⟩
  case round =>
    obtain ⟨j, hj, rfl, rfl, hown⟩ := hrel
    rcases Nat.lt_or_ge j 4 with g | g
    · have HW := Lib.hid hown
      clear hown HO
      have hl4 : (xs ++ (Crc.le4 s).take j).length + [0].length ≤ 140737488355328 := len_take4 s j (by rw [← Hn.out]; exact hl)
      have HL4 := Lib.hid hl4
      have hlt : s / 256 ^ j < 4294967296 := Nat.lt_of_le_of_lt (Nat.div_le_self _ _) hs
      have hnx : s / 256 ^ j / 256 = s / 256 ^ (j + 1) := by rw [Nat.div_div_eq_div_mul, Nat.pow_succ]
      have hat : (Crc.le4 s)[j]? = some (s / 256 ^ j % 256) := by
        have hj4 : j = 0 ∨ j = 1 ∨ j = 2 ∨ j = 3 := by omega
        rcases hj4 with rfl | rfl | rfl | rfl <;> simp [Crc.le4]
      obtain ⟨t, ht⟩ : ∃ t, t = s / 256 ^ j := ⟨_, rfl⟩
      rw [← ht] at hlt hnx hat ⊢
      have HNX := Lib.hid hnx
      have HAT := Lib.hid hat
      clear hl4 ht hnx hat
      go_wp2_with (at_builtin; refine wpList_app rfl _ _ rfl w _ u3 (.slice (some ⟨wr.heap.size, 0, none⟩) 1 1) _ [t % 256] rfl rfl (HW.out.alloc _) (BArg.one wr _ (by omega) _ (by omega) _) HL4.out ?_; intro v3 w3 hown)
      go_roundw
      case rel => exact rclose_go g (by omega) (by rw [← HNX.out]; omega) HAT.out hown
      case measure => simp [intOf]; omega
    · obtain rfl : j = 4 := by omega
      go_wp2_with fail
      go_ret
      exact ⟨_, rfl, own_eq hown (by rw [Hs.out]; rfl)⟩

end Go.Proofs.Ytbpkjljienadiaa
