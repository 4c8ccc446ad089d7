/- Package ether: a frame's bytes ahead of its check. -/
import Derived.Test.YtbpkjljienadiaaEBox
namespace Go.Proofs.Ytbpkjljienadiaa
open Go.RowKit Go.Joins

set_option maxHeartbeats 4000000 in
theorem text_ttt (d0 d1 d2 d3 d4 d5 s0 s1 s2 s3 s4 s5 P V S T : Nat) (data : List Nat) (p : Option Addr) (n c : Nat) (f : Fr) (w : World) (hf : f = ⟨d0, d1, d2, d3, d4, d5, s0, s1, s2, s3, s4, s5, true, (V : Int), (P : Int), true, true, (S : Int), (T : Int), data⟩)
    (hP : P ≤ 7) (hV : V ≤ 4094) (hS : S ≤ 65535) (hT : T ≤ 65535) (hl : n ≤ 2000) (hn : data.length = n) (hw : f.Wf) (hA : BArg w (.slice p n c) data) :
    Calls Try.prog 25 #[.agg #[.int .u8 (d0 : Int), .int .u8 (d1 : Int), .int .u8 (d2 : Int), .int .u8 (d3 : Int), .int .u8 (d4 : Int), .int .u8 (d5 : Int), .int .u8 (s0 : Int), .int .u8 (s1 : Int), .int .u8 (s2 : Int), .int .u8 (s3 : Int), .int .u8 (s4 : Int), .int .u8 (s5 : Int), .bool true, .int .i64 (V : Int), .int .i64 (P : Int), .bool true, .bool true, .int .i64 (S : Int), .int .i64 (T : Int), .slice p n c]] w (OwnPost w f.text) := by
  have HB0 : Hid (Boxed (w.alloc (.cells #[.int .u8 (d0 : Int), .int .u8 (d1 : Int), .int .u8 (d2 : Int), .int .u8 (d3 : Int), .int .u8 (d4 : Int), .int .u8 (d5 : Int), .int .u8 (s0 : Int), .int .u8 (s1 : Int), .int .u8 (s2 : Int), .int .u8 (s3 : Int), .int .u8 (s4 : Int), .int .u8 (s5 : Int), .bool true, .int .i64 (V : Int), .int .i64 (P : Int), .bool true, .bool true, .int .i64 (S : Int), .int .i64 (T : Int), .slice p n c] 26)) w.heap.size f (.slice p n c)) := Lib.hid (by subst hf; exact heap_alloc_new w _)
  have HSZ : Hid (Ret 18 #[.agg #[.int .u8 (d0 : Int), .int .u8 (d1 : Int), .int .u8 (d2 : Int), .int .u8 (d3 : Int), .int .u8 (d4 : Int), .int .u8 (d5 : Int), .int .u8 (s0 : Int), .int .u8 (s1 : Int), .int .u8 (s2 : Int), .int .u8 (s3 : Int), .int .u8 (s4 : Int), .int .u8 (s5 : Int), .bool true, .int .i64 (V : Int), .int .i64 (P : Int), .bool true, .bool true, .int .i64 (S : Int), .int .i64 (T : Int), .slice p n c]] (.int .i64 (f.size : Int))) := Lib.hid (by have := size_ret f p n c (by rw [hf]; exact hn) (by omega); subst hf; exact this)
  have CE : Hid (∀ wx, Boxed wx w.heap.size f (.slice p n c) → wx.cell? ⟨w.heap.size, 12, none⟩ = some (.bool true) ∧ wx.cell? ⟨w.heap.size, 14, none⟩ = some (.int .i64 (P : Int)) ∧ wx.cell? ⟨w.heap.size, 13, none⟩ = some (.int .i64 (V : Int)) ∧ wx.cell? ⟨w.heap.size, 15, none⟩ = some (.bool true) ∧ wx.cell? ⟨w.heap.size, 16, none⟩ = some (.bool true) ∧ wx.cell? ⟨w.heap.size, 17, none⟩ = some (.int .i64 (S : Int)) ∧ wx.cell? ⟨w.heap.size, 18, none⟩ = some (.int .i64 (T : Int)) ∧ wx.cell? ⟨w.heap.size, 19, none⟩ = some (.slice p n c)) := Lib.hid (fun wx hb => by
    have e := hf
    subst e
    exact ⟨hb.c12, hb.c14, hb.c13, hb.c15, hb.c16, hb.c17, hb.c18, hb.c19⟩)
  have HD : Hid (∀ wx, Boxed wx w.heap.size f (.slice p n c) → BArg wx (.slice (some ⟨w.heap.size, 0, none⟩) 6 20) [d0, d1, d2, d3, d4, d5] ∧ BArg wx (.slice (some ⟨w.heap.size, 0, none⟩) 6 6) [d0, d1, d2, d3, d4, d5] ∧ BArg wx (.slice (some ⟨w.heap.size, 6, none⟩) 6 14) [s0, s1, s2, s3, s4, s5] ∧ BArg wx (.slice (some ⟨w.heap.size, 6, none⟩) 6 6) [s0, s1, s2, s3, s4, s5]) := Lib.hid (fun wx hb => by
    have e := hf
    have hh := hw.1
    subst e
    exact ⟨hb.dst hh 20 (by omega), hb.dst hh 6 (by omega), hb.src hh 14 (by omega), hb.src hh 6 (by omega)⟩)
  have hsz : f.size ≤ 4000 := by rw [hf]; unfold Fr.size Fr.extra; dsimp only; rw [hn]; simp only [if_true]; omega
  have hil : f.ins.length ≤ 4000 := by have h1 := f.ins_len; have h2 := hsz; unfold Fr.size at h2; omega
  obtain ⟨H, hHe⟩ : ∃ x, x = P * 8192 + 4096 + V := ⟨_, rfl⟩
  have hfin : Hid (((((([] ++ [d0, d1, d2, d3, d4, d5]) ++ [s0, s1, s2, s3, s4, s5]) ++ twos [33024, H]) ++ twos [61889, 0, S]) ++ twos [T, n]) ++ data = f.ins) := Lib.hid (by rw [hf, hHe]; simp [Fr.ins, Fr.heads, Fr.tags, Fr.how, twos, hn])
  have HN := Lib.hid hn
  have HT : Hid (f.text = Fr.pad f.ins) := Lib.hid rfl
  have HF := Lib.hid hf
  clear hf hw
  obtain ⟨size, hse⟩ : ∃ x, x = f.size := ⟨_, rfl⟩
  rw [← hse] at HSZ hsz
  clear hse
  obtain ⟨ins, hie⟩ : ∃ x, x = f.ins := ⟨_, rfl⟩
  rw [← hie] at hfin HT hil
  have Hil := Lib.hid hil
  clear hil
  clear hie
  obtain ⟨text, hte⟩ : ∃ x, x = f.text := ⟨_, rfl⟩
  rw [← hte] at HT ⊢
  clear hte
  have HA := Lib.hid hA
  clear hA
  obtain ⟨i0, hi, hz0, hz1, hz2⟩ := info_parts Try.infoU8
  have hor := how_or P V hP hV
  have hor2 := how_or2 P V hP hV
  rw [← hHe] at hor2
  have hH : H < 65536 := by omega
  clear hHe
  obtain ⟨H1, hH1⟩ : ∃ x, x = P * 8192 + V := ⟨_, rfl⟩
  rw [← hH1] at hor hor2
  clear hH1
  go_enter Try.func25, Try.ntmps25
  go_wp2_with (first
    | (with_reducible refine at_loadF ?_; refine wpList_loadF rfl _ rfl w.heap.size rfl _ _ (heap_alloc_new w _) rfl ?_)
    | (go_at_call 18; (with_reducible refine (HSZ.out.go _).mono ?_); rintro e w1 ⟨rfl, hb⟩; have HB := Lib.hid (HB0.out.below hb); have HW := Lib.hid (bTr (bAl (bRef w) _) hb); clear hb)
    | (at_make; refine wpList_make_own _ rfl _ _ 24 rfl w.heap.size 5 i0 (.int .u8 0) 1 Try.underlying24 hi hz0 hz1 .i64 .i64 _ size rfl rfl (by omega) (by rw [hz2]; omega) (by unfold maxLen; omega) HW.out.size ?_; intro w2 hown hgrow; have HO := Lib.hid (OwnB.made hown hgrow HW.out); replace HB := Lib.hid (HB.out.oth (Oth.grown hgrow)); clear hown hgrow; obtain ⟨c12, c14, c13, c15, c16, c17, c18, c19⟩ := CE.out _ HB.out)
    | (at_builtin; refine wpList_appo rfl _ _ rfl w _ (.slice (some ⟨w1.heap.size, 0, none⟩) 0 size) (.slice (some ⟨w.heap.size, 0, none⟩) 6 6) [] [d0, d1, d2, d3, d4, d5] rfl rfl HO.out (HD.out _ HB.out).2.1 (by simp) ?_; intro va wa hown hoth; replace HB := Lib.hid (HB.out.oth hoth); replace HO := Lib.hid hown; clear hown hoth; obtain ⟨c12, c14, c13, c15, c16, c17, c18, c19⟩ := CE.out _ HB.out)
    | (at_builtin; refine wpList_appo rfl _ _ rfl w _ (.slice (some ⟨w1.heap.size, 0, none⟩) 0 size) (.slice (some ⟨w.heap.size, 0, none⟩) 6 20) [] [d0, d1, d2, d3, d4, d5] rfl rfl HO.out (HD.out _ HB.out).1 (by simp) ?_; intro va wa hown hoth; replace HB := Lib.hid (HB.out.oth hoth); replace HO := Lib.hid hown; clear hown hoth; obtain ⟨c12, c14, c13, c15, c16, c17, c18, c19⟩ := CE.out _ HB.out)
    | (at_builtin; refine wpList_appo rfl _ _ rfl w _ va (.slice (some ⟨w.heap.size, 6, none⟩) 6 6) ([] ++ [d0, d1, d2, d3, d4, d5]) [s0, s1, s2, s3, s4, s5] rfl rfl HO.out (HD.out _ HB.out).2.2.2 (by simp) ?_; intro vs ws hown hoth; replace HB := Lib.hid (HB.out.oth hoth); replace HO := Lib.hid hown; clear hown hoth; obtain ⟨c12, c14, c13, c15, c16, c17, c18, c19⟩ := CE.out _ HB.out)
    | (at_builtin; refine wpList_appo rfl _ _ rfl w _ va (.slice (some ⟨w.heap.size, 6, none⟩) 6 14) ([] ++ [d0, d1, d2, d3, d4, d5]) [s0, s1, s2, s3, s4, s5] rfl rfl HO.out (HD.out _ HB.out).2.2.1 (by simp) ?_; intro vs ws hown hoth; replace HB := Lib.hid (HB.out.oth hoth); replace HO := Lib.hid hown; clear hown hoth; obtain ⟨c12, c14, c13, c15, c16, c17, c18, c19⟩ := CE.out _ HB.out)
    | (go_at_call 35; (with_reducible refine (put_any (HO.out.alloc _) (IArg.two _ 33024 H _ _ (by omega) (by omega) _) (fun k hk => two_small hk (by omega) hH) (by simp) (by simp)).mono ?_); rintro e wn ⟨vb, rfl, hown, hoth⟩; replace HB := Lib.hid ((HB.out.below (bAl (bRef _) _)).oth hoth); replace HO := Lib.hid hown; clear hown hoth; obtain ⟨c12, c14, c13, c15, c16, c17, c18, c19⟩ := CE.out _ HB.out)
    | (go_at_call 35; (with_reducible refine (put_any (HO.out.alloc _) (IArg.three _ 61889 0 S _ _ _ (by omega) (by omega) (by omega) _) (fun k hk => three_small hk (by omega) (by omega) (by omega)) (by simp [twos_len]) (by simp)).mono ?_); rintro e wn ⟨vb, rfl, hown, hoth⟩; replace HB := Lib.hid ((HB.out.below (bAl (bRef _) _)).oth hoth); replace HO := Lib.hid hown; clear hown hoth; obtain ⟨c12, c14, c13, c15, c16, c17, c18, c19⟩ := CE.out _ HB.out)
    | (go_at_call 35; (with_reducible refine (put_any (HO.out.alloc _) (IArg.two _ T n _ _ (by omega) (by omega) _) (fun k hk => two_small hk (by omega) (by omega)) (by simp [twos_len]) (by simp)).mono ?_); rintro e wn ⟨vb, rfl, hown, hoth⟩; replace HB := Lib.hid ((HB.out.below (bAl (bRef _) _)).oth hoth); replace HO := Lib.hid hown; clear hown hoth; obtain ⟨c12, c14, c13, c15, c16, c17, c18, c19⟩ := CE.out _ HB.out)
    | (at_builtin; refine wpList_appo rfl _ _ rfl w _ vb (.slice p n c) (((((([] ++ [d0, d1, d2, d3, d4, d5]) ++ [s0, s1, s2, s3, s4, s5]) ++ twos [33024, H]) ++ twos [61889, 0, S]) ++ twos [T, n])) data rfl rfl HO.out (HA.out.below HO.out.bel) (by simp [twos_len, HN.out]; omega) ?_; intro vd wd hown hoth; replace HO := Lib.hid (own_eq hown hfin.out); clear hown hoth))
  go_loopw [3] (fun bv wr => PadRel w ins bv wr) (fun bv _ => 60 - sliceLen bv)
  case atStart => exact ⟨0, by omega, own_eq HO.out (by simp)⟩
  case round =>
    obtain ⟨j, hj, hown⟩ := hrel
    obtain ⟨g, cc, rfl, hc, hg1, hg2⟩ := hown.form
    have hlen : (ins ++ List.replicate j 0).length = ins.length + j := by rw [List.length_append, List.length_replicate]
    rw [hlen] at hown hc ⊢
    have HW2 := Lib.hid hown
    obtain ⟨L, hL⟩ : ∃ x, x = ins.length := ⟨_, rfl⟩
    have HLe := Lib.hid hL
    have HLl := Lib.hid (show (ins ++ List.replicate j 0).length + [0].length ≤ 140737488355328 by rw [hlen]; have := Hil.out; simp; omega)
    have Hj := Lib.hid hj
    rw [← hL] at hj hc HW2 ⊢
    clear hown hlen hL
    rcases Nat.lt_or_ge (L + j) 60 with g6 | g6
    · have Hg6 := Lib.hid (show ins.length + j < 60 by rw [← HLe.out]; exact g6)
      go_wp2_with (at_builtin; refine wpList_app rfl _ _ rfl w _ (.slice (some ⟨g, 0, none⟩) (L + j) cc) (.slice (some ⟨wr.heap.size, 0, none⟩) 1 1) (ins ++ List.replicate j 0) [0] rfl rfl (HW2.out.alloc _) (BArg.one wr 0 (by omega) _ rfl _) HLl.out ?_; intro v3 w3 hown)
      go_roundw
      case rel => exact pad_go hown Hg6.out
      case measure =>
        obtain ⟨g', c', rfl, _⟩ := hown.form
        simp [sliceLen]; rw [← HLe.out]; omega
    · go_wp2_with fail
      go_ret
      exact ⟨_, rfl, own_eq HW2.out (by rw [HT.out]; exact pad_end Hj.out (by rw [← HLe.out]; exact g6))⟩

set_option maxHeartbeats 4000000 in
theorem text_ttf (d0 d1 d2 d3 d4 d5 s0 s1 s2 s3 s4 s5 P V S T : Nat) (data : List Nat) (p : Option Addr) (n c : Nat) (f : Fr) (w : World) (hf : f = ⟨d0, d1, d2, d3, d4, d5, s0, s1, s2, s3, s4, s5, true, (V : Int), (P : Int), true, false, 0, (T : Int), data⟩)
    (hP : P ≤ 7) (hV : V ≤ 4094) (hS : S ≤ 65535) (hT : T ≤ 65535) (hl : n ≤ 2000) (hn : data.length = n) (hw : f.Wf) (hA : BArg w (.slice p n c) data) :
    Calls Try.prog 25 #[.agg #[.int .u8 (d0 : Int), .int .u8 (d1 : Int), .int .u8 (d2 : Int), .int .u8 (d3 : Int), .int .u8 (d4 : Int), .int .u8 (d5 : Int), .int .u8 (s0 : Int), .int .u8 (s1 : Int), .int .u8 (s2 : Int), .int .u8 (s3 : Int), .int .u8 (s4 : Int), .int .u8 (s5 : Int), .bool true, .int .i64 (V : Int), .int .i64 (P : Int), .bool true, .bool false, .int .i64 0, .int .i64 (T : Int), .slice p n c]] w (OwnPost w f.text) := by
  have HB0 : Hid (Boxed (w.alloc (.cells #[.int .u8 (d0 : Int), .int .u8 (d1 : Int), .int .u8 (d2 : Int), .int .u8 (d3 : Int), .int .u8 (d4 : Int), .int .u8 (d5 : Int), .int .u8 (s0 : Int), .int .u8 (s1 : Int), .int .u8 (s2 : Int), .int .u8 (s3 : Int), .int .u8 (s4 : Int), .int .u8 (s5 : Int), .bool true, .int .i64 (V : Int), .int .i64 (P : Int), .bool true, .bool false, .int .i64 0, .int .i64 (T : Int), .slice p n c] 26)) w.heap.size f (.slice p n c)) := Lib.hid (by subst hf; exact heap_alloc_new w _)
  have HSZ : Hid (Ret 18 #[.agg #[.int .u8 (d0 : Int), .int .u8 (d1 : Int), .int .u8 (d2 : Int), .int .u8 (d3 : Int), .int .u8 (d4 : Int), .int .u8 (d5 : Int), .int .u8 (s0 : Int), .int .u8 (s1 : Int), .int .u8 (s2 : Int), .int .u8 (s3 : Int), .int .u8 (s4 : Int), .int .u8 (s5 : Int), .bool true, .int .i64 (V : Int), .int .i64 (P : Int), .bool true, .bool false, .int .i64 0, .int .i64 (T : Int), .slice p n c]] (.int .i64 (f.size : Int))) := Lib.hid (by have := size_ret f p n c (by rw [hf]; exact hn) (by omega); subst hf; exact this)
  have CE : Hid (∀ wx, Boxed wx w.heap.size f (.slice p n c) → wx.cell? ⟨w.heap.size, 12, none⟩ = some (.bool true) ∧ wx.cell? ⟨w.heap.size, 14, none⟩ = some (.int .i64 (P : Int)) ∧ wx.cell? ⟨w.heap.size, 13, none⟩ = some (.int .i64 (V : Int)) ∧ wx.cell? ⟨w.heap.size, 15, none⟩ = some (.bool true) ∧ wx.cell? ⟨w.heap.size, 16, none⟩ = some (.bool false) ∧ wx.cell? ⟨w.heap.size, 18, none⟩ = some (.int .i64 (T : Int)) ∧ wx.cell? ⟨w.heap.size, 19, none⟩ = some (.slice p n c)) := Lib.hid (fun wx hb => by
    have e := hf
    subst e
    exact ⟨hb.c12, hb.c14, hb.c13, hb.c15, hb.c16, hb.c18, hb.c19⟩)
  have HD : Hid (∀ wx, Boxed wx w.heap.size f (.slice p n c) → BArg wx (.slice (some ⟨w.heap.size, 0, none⟩) 6 20) [d0, d1, d2, d3, d4, d5] ∧ BArg wx (.slice (some ⟨w.heap.size, 0, none⟩) 6 6) [d0, d1, d2, d3, d4, d5] ∧ BArg wx (.slice (some ⟨w.heap.size, 6, none⟩) 6 14) [s0, s1, s2, s3, s4, s5] ∧ BArg wx (.slice (some ⟨w.heap.size, 6, none⟩) 6 6) [s0, s1, s2, s3, s4, s5]) := Lib.hid (fun wx hb => by
    have e := hf
    have hh := hw.1
    subst e
    exact ⟨hb.dst hh 20 (by omega), hb.dst hh 6 (by omega), hb.src hh 14 (by omega), hb.src hh 6 (by omega)⟩)
  have hsz : f.size ≤ 4000 := by rw [hf]; unfold Fr.size Fr.extra; dsimp only; rw [hn]; simp only [if_true, if_false, Bool.false_eq_true]; omega
  have hil : f.ins.length ≤ 4000 := by have h1 := f.ins_len; have h2 := hsz; unfold Fr.size at h2; omega
  obtain ⟨H, hHe⟩ : ∃ x, x = P * 8192 + 4096 + V := ⟨_, rfl⟩
  have hfin : Hid ((((([] ++ [d0, d1, d2, d3, d4, d5]) ++ [s0, s1, s2, s3, s4, s5]) ++ twos [33024, H]) ++ twos [T, n]) ++ data = f.ins) := Lib.hid (by rw [hf, hHe]; simp [Fr.ins, Fr.heads, Fr.tags, Fr.how, twos, hn])
  have HN := Lib.hid hn
  have HT : Hid (f.text = Fr.pad f.ins) := Lib.hid rfl
  have HF := Lib.hid hf
  clear hf hw
  obtain ⟨size, hse⟩ : ∃ x, x = f.size := ⟨_, rfl⟩
  rw [← hse] at HSZ hsz
  clear hse
  obtain ⟨ins, hie⟩ : ∃ x, x = f.ins := ⟨_, rfl⟩
  rw [← hie] at hfin HT hil
  have Hil := Lib.hid hil
  clear hil
  clear hie
  obtain ⟨text, hte⟩ : ∃ x, x = f.text := ⟨_, rfl⟩
  rw [← hte] at HT ⊢
  clear hte
  have HA := Lib.hid hA
  clear hA
  obtain ⟨i0, hi, hz0, hz1, hz2⟩ := info_parts Try.infoU8
  have hor := how_or P V hP hV
  have hor2 := how_or2 P V hP hV
  rw [← hHe] at hor2
  have hH : H < 65536 := by omega
  clear hHe
  obtain ⟨H1, hH1⟩ : ∃ x, x = P * 8192 + V := ⟨_, rfl⟩
  rw [← hH1] at hor hor2
  clear hH1
  go_enter Try.func25, Try.ntmps25
  go_wp2_with (first
    | (with_reducible refine at_loadF ?_; refine wpList_loadF rfl _ rfl w.heap.size rfl _ _ (heap_alloc_new w _) rfl ?_)
    | (go_at_call 18; (with_reducible refine (HSZ.out.go _).mono ?_); rintro e w1 ⟨rfl, hb⟩; have HB := Lib.hid (HB0.out.below hb); have HW := Lib.hid (bTr (bAl (bRef w) _) hb); clear hb)
    | (at_make; refine wpList_make_own _ rfl _ _ 24 rfl w.heap.size 5 i0 (.int .u8 0) 1 Try.underlying24 hi hz0 hz1 .i64 .i64 _ size rfl rfl (by omega) (by rw [hz2]; omega) (by unfold maxLen; omega) HW.out.size ?_; intro w2 hown hgrow; have HO := Lib.hid (OwnB.made hown hgrow HW.out); replace HB := Lib.hid (HB.out.oth (Oth.grown hgrow)); clear hown hgrow; obtain ⟨c12, c14, c13, c15, c16, c18, c19⟩ := CE.out _ HB.out)
    | (at_builtin; refine wpList_appo rfl _ _ rfl w _ (.slice (some ⟨w1.heap.size, 0, none⟩) 0 size) (.slice (some ⟨w.heap.size, 0, none⟩) 6 6) [] [d0, d1, d2, d3, d4, d5] rfl rfl HO.out (HD.out _ HB.out).2.1 (by simp) ?_; intro va wa hown hoth; replace HB := Lib.hid (HB.out.oth hoth); replace HO := Lib.hid hown; clear hown hoth; obtain ⟨c12, c14, c13, c15, c16, c18, c19⟩ := CE.out _ HB.out)
    | (at_builtin; refine wpList_appo rfl _ _ rfl w _ (.slice (some ⟨w1.heap.size, 0, none⟩) 0 size) (.slice (some ⟨w.heap.size, 0, none⟩) 6 20) [] [d0, d1, d2, d3, d4, d5] rfl rfl HO.out (HD.out _ HB.out).1 (by simp) ?_; intro va wa hown hoth; replace HB := Lib.hid (HB.out.oth hoth); replace HO := Lib.hid hown; clear hown hoth; obtain ⟨c12, c14, c13, c15, c16, c18, c19⟩ := CE.out _ HB.out)
    | (at_builtin; refine wpList_appo rfl _ _ rfl w _ va (.slice (some ⟨w.heap.size, 6, none⟩) 6 6) ([] ++ [d0, d1, d2, d3, d4, d5]) [s0, s1, s2, s3, s4, s5] rfl rfl HO.out (HD.out _ HB.out).2.2.2 (by simp) ?_; intro vs ws hown hoth; replace HB := Lib.hid (HB.out.oth hoth); replace HO := Lib.hid hown; clear hown hoth; obtain ⟨c12, c14, c13, c15, c16, c18, c19⟩ := CE.out _ HB.out)
    | (at_builtin; refine wpList_appo rfl _ _ rfl w _ va (.slice (some ⟨w.heap.size, 6, none⟩) 6 14) ([] ++ [d0, d1, d2, d3, d4, d5]) [s0, s1, s2, s3, s4, s5] rfl rfl HO.out (HD.out _ HB.out).2.2.1 (by simp) ?_; intro vs ws hown hoth; replace HB := Lib.hid (HB.out.oth hoth); replace HO := Lib.hid hown; clear hown hoth; obtain ⟨c12, c14, c13, c15, c16, c18, c19⟩ := CE.out _ HB.out)
    | (go_at_call 35; (with_reducible refine (put_any (HO.out.alloc _) (IArg.two _ 33024 H _ _ (by omega) (by omega) _) (fun k hk => two_small hk (by omega) hH) (by simp) (by simp)).mono ?_); rintro e wn ⟨vb, rfl, hown, hoth⟩; replace HB := Lib.hid ((HB.out.below (bAl (bRef _) _)).oth hoth); replace HO := Lib.hid hown; clear hown hoth; obtain ⟨c12, c14, c13, c15, c16, c18, c19⟩ := CE.out _ HB.out)
    | (go_at_call 35; (with_reducible refine (put_any (HO.out.alloc _) (IArg.two _ T n _ _ (by omega) (by omega) _) (fun k hk => two_small hk (by omega) (by omega)) (by simp [twos_len]) (by simp)).mono ?_); rintro e wn ⟨vb, rfl, hown, hoth⟩; replace HB := Lib.hid ((HB.out.below (bAl (bRef _) _)).oth hoth); replace HO := Lib.hid hown; clear hown hoth; obtain ⟨c12, c14, c13, c15, c16, c18, c19⟩ := CE.out _ HB.out)
    | (at_builtin; refine wpList_appo rfl _ _ rfl w _ vb (.slice p n c) ((((([] ++ [d0, d1, d2, d3, d4, d5]) ++ [s0, s1, s2, s3, s4, s5]) ++ twos [33024, H]) ++ twos [T, n])) data rfl rfl HO.out (HA.out.below HO.out.bel) (by simp [twos_len, HN.out]; omega) ?_; intro vd wd hown hoth; replace HO := Lib.hid (own_eq hown hfin.out); clear hown hoth))
  go_loopw [3] (fun bv wr => PadRel w ins bv wr) (fun bv _ => 60 - sliceLen bv)
  case atStart => exact ⟨0, by omega, own_eq HO.out (by simp)⟩
  case round =>
    obtain ⟨j, hj, hown⟩ := hrel
    obtain ⟨g, cc, rfl, hc, hg1, hg2⟩ := hown.form
    have hlen : (ins ++ List.replicate j 0).length = ins.length + j := by rw [List.length_append, List.length_replicate]
    rw [hlen] at hown hc ⊢
    have HW2 := Lib.hid hown
    obtain ⟨L, hL⟩ : ∃ x, x = ins.length := ⟨_, rfl⟩
    have HLe := Lib.hid hL
    have HLl := Lib.hid (show (ins ++ List.replicate j 0).length + [0].length ≤ 140737488355328 by rw [hlen]; have := Hil.out; simp; omega)
    have Hj := Lib.hid hj
    rw [← hL] at hj hc HW2 ⊢
    clear hown hlen hL
    rcases Nat.lt_or_ge (L + j) 60 with g6 | g6
    · have Hg6 := Lib.hid (show ins.length + j < 60 by rw [← HLe.out]; exact g6)
      go_wp2_with (at_builtin; refine wpList_app rfl _ _ rfl w _ (.slice (some ⟨g, 0, none⟩) (L + j) cc) (.slice (some ⟨wr.heap.size, 0, none⟩) 1 1) (ins ++ List.replicate j 0) [0] rfl rfl (HW2.out.alloc _) (BArg.one wr 0 (by omega) _ rfl _) HLl.out ?_; intro v3 w3 hown)
      go_roundw
      case rel => exact pad_go hown Hg6.out
      case measure =>
        obtain ⟨g', c', rfl, _⟩ := hown.form
        simp [sliceLen]; rw [← HLe.out]; omega
    · go_wp2_with fail
      go_ret
      exact ⟨_, rfl, own_eq HW2.out (by rw [HT.out]; exact pad_end Hj.out (by rw [← HLe.out]; exact g6))⟩

set_option maxHeartbeats 4000000 in
theorem text_tft (d0 d1 d2 d3 d4 d5 s0 s1 s2 s3 s4 s5 P V S T : Nat) (data : List Nat) (p : Option Addr) (n c : Nat) (f : Fr) (w : World) (hf : f = ⟨d0, d1, d2, d3, d4, d5, s0, s1, s2, s3, s4, s5, true, (V : Int), (P : Int), false, true, (S : Int), (T : Int), data⟩)
    (hP : P ≤ 7) (hV : V ≤ 4094) (hS : S ≤ 65535) (hT : T ≤ 65535) (hl : n ≤ 2000) (hn : data.length = n) (hw : f.Wf) (hA : BArg w (.slice p n c) data) :
    Calls Try.prog 25 #[.agg #[.int .u8 (d0 : Int), .int .u8 (d1 : Int), .int .u8 (d2 : Int), .int .u8 (d3 : Int), .int .u8 (d4 : Int), .int .u8 (d5 : Int), .int .u8 (s0 : Int), .int .u8 (s1 : Int), .int .u8 (s2 : Int), .int .u8 (s3 : Int), .int .u8 (s4 : Int), .int .u8 (s5 : Int), .bool true, .int .i64 (V : Int), .int .i64 (P : Int), .bool false, .bool true, .int .i64 (S : Int), .int .i64 (T : Int), .slice p n c]] w (OwnPost w f.text) := by
  have HB0 : Hid (Boxed (w.alloc (.cells #[.int .u8 (d0 : Int), .int .u8 (d1 : Int), .int .u8 (d2 : Int), .int .u8 (d3 : Int), .int .u8 (d4 : Int), .int .u8 (d5 : Int), .int .u8 (s0 : Int), .int .u8 (s1 : Int), .int .u8 (s2 : Int), .int .u8 (s3 : Int), .int .u8 (s4 : Int), .int .u8 (s5 : Int), .bool true, .int .i64 (V : Int), .int .i64 (P : Int), .bool false, .bool true, .int .i64 (S : Int), .int .i64 (T : Int), .slice p n c] 26)) w.heap.size f (.slice p n c)) := Lib.hid (by subst hf; exact heap_alloc_new w _)
  have HSZ : Hid (Ret 18 #[.agg #[.int .u8 (d0 : Int), .int .u8 (d1 : Int), .int .u8 (d2 : Int), .int .u8 (d3 : Int), .int .u8 (d4 : Int), .int .u8 (d5 : Int), .int .u8 (s0 : Int), .int .u8 (s1 : Int), .int .u8 (s2 : Int), .int .u8 (s3 : Int), .int .u8 (s4 : Int), .int .u8 (s5 : Int), .bool true, .int .i64 (V : Int), .int .i64 (P : Int), .bool false, .bool true, .int .i64 (S : Int), .int .i64 (T : Int), .slice p n c]] (.int .i64 (f.size : Int))) := Lib.hid (by have := size_ret f p n c (by rw [hf]; exact hn) (by omega); subst hf; exact this)
  have CE : Hid (∀ wx, Boxed wx w.heap.size f (.slice p n c) → wx.cell? ⟨w.heap.size, 12, none⟩ = some (.bool true) ∧ wx.cell? ⟨w.heap.size, 14, none⟩ = some (.int .i64 (P : Int)) ∧ wx.cell? ⟨w.heap.size, 13, none⟩ = some (.int .i64 (V : Int)) ∧ wx.cell? ⟨w.heap.size, 15, none⟩ = some (.bool false) ∧ wx.cell? ⟨w.heap.size, 16, none⟩ = some (.bool true) ∧ wx.cell? ⟨w.heap.size, 17, none⟩ = some (.int .i64 (S : Int)) ∧ wx.cell? ⟨w.heap.size, 18, none⟩ = some (.int .i64 (T : Int)) ∧ wx.cell? ⟨w.heap.size, 19, none⟩ = some (.slice p n c)) := Lib.hid (fun wx hb => by
    have e := hf
    subst e
    exact ⟨hb.c12, hb.c14, hb.c13, hb.c15, hb.c16, hb.c17, hb.c18, hb.c19⟩)
  have HD : Hid (∀ wx, Boxed wx w.heap.size f (.slice p n c) → BArg wx (.slice (some ⟨w.heap.size, 0, none⟩) 6 20) [d0, d1, d2, d3, d4, d5] ∧ BArg wx (.slice (some ⟨w.heap.size, 0, none⟩) 6 6) [d0, d1, d2, d3, d4, d5] ∧ BArg wx (.slice (some ⟨w.heap.size, 6, none⟩) 6 14) [s0, s1, s2, s3, s4, s5] ∧ BArg wx (.slice (some ⟨w.heap.size, 6, none⟩) 6 6) [s0, s1, s2, s3, s4, s5]) := Lib.hid (fun wx hb => by
    have e := hf
    have hh := hw.1
    subst e
    exact ⟨hb.dst hh 20 (by omega), hb.dst hh 6 (by omega), hb.src hh 14 (by omega), hb.src hh 6 (by omega)⟩)
  have hsz : f.size ≤ 4000 := by rw [hf]; unfold Fr.size Fr.extra; dsimp only; rw [hn]; simp only [if_true]; omega
  have hil : f.ins.length ≤ 4000 := by have h1 := f.ins_len; have h2 := hsz; unfold Fr.size at h2; omega
  obtain ⟨H, hHe⟩ : ∃ x, x = P * 8192 + V := ⟨_, rfl⟩
  have hfin : Hid (((((([] ++ [d0, d1, d2, d3, d4, d5]) ++ [s0, s1, s2, s3, s4, s5]) ++ twos [33024, H]) ++ twos [61889, 0, S]) ++ twos [T, n]) ++ data = f.ins) := Lib.hid (by rw [hf, hHe]; simp [Fr.ins, Fr.heads, Fr.tags, Fr.how, twos, hn])
  have HN := Lib.hid hn
  have HT : Hid (f.text = Fr.pad f.ins) := Lib.hid rfl
  have HF := Lib.hid hf
  clear hf hw
  obtain ⟨size, hse⟩ : ∃ x, x = f.size := ⟨_, rfl⟩
  rw [← hse] at HSZ hsz
  clear hse
  obtain ⟨ins, hie⟩ : ∃ x, x = f.ins := ⟨_, rfl⟩
  rw [← hie] at hfin HT hil
  have Hil := Lib.hid hil
  clear hil
  clear hie
  obtain ⟨text, hte⟩ : ∃ x, x = f.text := ⟨_, rfl⟩
  rw [← hte] at HT ⊢
  clear hte
  have HA := Lib.hid hA
  clear hA
  obtain ⟨i0, hi, hz0, hz1, hz2⟩ := info_parts Try.infoU8
  have hor := how_or P V hP hV
  rw [← hHe] at hor
  have hH : H < 65536 := by omega
  clear hHe
  go_enter Try.func25, Try.ntmps25
  go_wp2_with (first
    | (with_reducible refine at_loadF ?_; refine wpList_loadF rfl _ rfl w.heap.size rfl _ _ (heap_alloc_new w _) rfl ?_)
    | (go_at_call 18; (with_reducible refine (HSZ.out.go _).mono ?_); rintro e w1 ⟨rfl, hb⟩; have HB := Lib.hid (HB0.out.below hb); have HW := Lib.hid (bTr (bAl (bRef w) _) hb); clear hb)
    | (at_make; refine wpList_make_own _ rfl _ _ 24 rfl w.heap.size 5 i0 (.int .u8 0) 1 Try.underlying24 hi hz0 hz1 .i64 .i64 _ size rfl rfl (by omega) (by rw [hz2]; omega) (by unfold maxLen; omega) HW.out.size ?_; intro w2 hown hgrow; have HO := Lib.hid (OwnB.made hown hgrow HW.out); replace HB := Lib.hid (HB.out.oth (Oth.grown hgrow)); clear hown hgrow; obtain ⟨c12, c14, c13, c15, c16, c17, c18, c19⟩ := CE.out _ HB.out)
    | (at_builtin; refine wpList_appo rfl _ _ rfl w _ (.slice (some ⟨w1.heap.size, 0, none⟩) 0 size) (.slice (some ⟨w.heap.size, 0, none⟩) 6 6) [] [d0, d1, d2, d3, d4, d5] rfl rfl HO.out (HD.out _ HB.out).2.1 (by simp) ?_; intro va wa hown hoth; replace HB := Lib.hid (HB.out.oth hoth); replace HO := Lib.hid hown; clear hown hoth; obtain ⟨c12, c14, c13, c15, c16, c17, c18, c19⟩ := CE.out _ HB.out)
    | (at_builtin; refine wpList_appo rfl _ _ rfl w _ (.slice (some ⟨w1.heap.size, 0, none⟩) 0 size) (.slice (some ⟨w.heap.size, 0, none⟩) 6 20) [] [d0, d1, d2, d3, d4, d5] rfl rfl HO.out (HD.out _ HB.out).1 (by simp) ?_; intro va wa hown hoth; replace HB := Lib.hid (HB.out.oth hoth); replace HO := Lib.hid hown; clear hown hoth; obtain ⟨c12, c14, c13, c15, c16, c17, c18, c19⟩ := CE.out _ HB.out)
    | (at_builtin; refine wpList_appo rfl _ _ rfl w _ va (.slice (some ⟨w.heap.size, 6, none⟩) 6 6) ([] ++ [d0, d1, d2, d3, d4, d5]) [s0, s1, s2, s3, s4, s5] rfl rfl HO.out (HD.out _ HB.out).2.2.2 (by simp) ?_; intro vs ws hown hoth; replace HB := Lib.hid (HB.out.oth hoth); replace HO := Lib.hid hown; clear hown hoth; obtain ⟨c12, c14, c13, c15, c16, c17, c18, c19⟩ := CE.out _ HB.out)
    | (at_builtin; refine wpList_appo rfl _ _ rfl w _ va (.slice (some ⟨w.heap.size, 6, none⟩) 6 14) ([] ++ [d0, d1, d2, d3, d4, d5]) [s0, s1, s2, s3, s4, s5] rfl rfl HO.out (HD.out _ HB.out).2.2.1 (by simp) ?_; intro vs ws hown hoth; replace HB := Lib.hid (HB.out.oth hoth); replace HO := Lib.hid hown; clear hown hoth; obtain ⟨c12, c14, c13, c15, c16, c17, c18, c19⟩ := CE.out _ HB.out)
    | (go_at_call 35; (with_reducible refine (put_any (HO.out.alloc _) (IArg.two _ 33024 H _ _ (by omega) (by omega) _) (fun k hk => two_small hk (by omega) hH) (by simp) (by simp)).mono ?_); rintro e wn ⟨vb, rfl, hown, hoth⟩; replace HB := Lib.hid ((HB.out.below (bAl (bRef _) _)).oth hoth); replace HO := Lib.hid hown; clear hown hoth; obtain ⟨c12, c14, c13, c15, c16, c17, c18, c19⟩ := CE.out _ HB.out)
    | (go_at_call 35; (with_reducible refine (put_any (HO.out.alloc _) (IArg.three _ 61889 0 S _ _ _ (by omega) (by omega) (by omega) _) (fun k hk => three_small hk (by omega) (by omega) (by omega)) (by simp [twos_len]) (by simp)).mono ?_); rintro e wn ⟨vb, rfl, hown, hoth⟩; replace HB := Lib.hid ((HB.out.below (bAl (bRef _) _)).oth hoth); replace HO := Lib.hid hown; clear hown hoth; obtain ⟨c12, c14, c13, c15, c16, c17, c18, c19⟩ := CE.out _ HB.out)
    | (go_at_call 35; (with_reducible refine (put_any (HO.out.alloc _) (IArg.two _ T n _ _ (by omega) (by omega) _) (fun k hk => two_small hk (by omega) (by omega)) (by simp [twos_len]) (by simp)).mono ?_); rintro e wn ⟨vb, rfl, hown, hoth⟩; replace HB := Lib.hid ((HB.out.below (bAl (bRef _) _)).oth hoth); replace HO := Lib.hid hown; clear hown hoth; obtain ⟨c12, c14, c13, c15, c16, c17, c18, c19⟩ := CE.out _ HB.out)
    | (at_builtin; refine wpList_appo rfl _ _ rfl w _ vb (.slice p n c) (((((([] ++ [d0, d1, d2, d3, d4, d5]) ++ [s0, s1, s2, s3, s4, s5]) ++ twos [33024, H]) ++ twos [61889, 0, S]) ++ twos [T, n])) data rfl rfl HO.out (HA.out.below HO.out.bel) (by simp [twos_len, HN.out]; omega) ?_; intro vd wd hown hoth; replace HO := Lib.hid (own_eq hown hfin.out); clear hown hoth))
  go_loopw [3] (fun bv wr => PadRel w ins bv wr) (fun bv _ => 60 - sliceLen bv)
  case atStart => exact ⟨0, by omega, own_eq HO.out (by simp)⟩
  case round =>
    obtain ⟨j, hj, hown⟩ := hrel
    obtain ⟨g, cc, rfl, hc, hg1, hg2⟩ := hown.form
    have hlen : (ins ++ List.replicate j 0).length = ins.length + j := by rw [List.length_append, List.length_replicate]
    rw [hlen] at hown hc ⊢
    have HW2 := Lib.hid hown
    obtain ⟨L, hL⟩ : ∃ x, x = ins.length := ⟨_, rfl⟩
    have HLe := Lib.hid hL
    have HLl := Lib.hid (show (ins ++ List.replicate j 0).length + [0].length ≤ 140737488355328 by rw [hlen]; have := Hil.out; simp; omega)
    have Hj := Lib.hid hj
    rw [← hL] at hj hc HW2 ⊢
    clear hown hlen hL
    rcases Nat.lt_or_ge (L + j) 60 with g6 | g6
    · have Hg6 := Lib.hid (show ins.length + j < 60 by rw [← HLe.out]; exact g6)
      go_wp2_with (at_builtin; refine wpList_app rfl _ _ rfl w _ (.slice (some ⟨g, 0, none⟩) (L + j) cc) (.slice (some ⟨wr.heap.size, 0, none⟩) 1 1) (ins ++ List.replicate j 0) [0] rfl rfl (HW2.out.alloc _) (BArg.one wr 0 (by omega) _ rfl _) HLl.out ?_; intro v3 w3 hown)
      go_roundw
      case rel => exact pad_go hown Hg6.out
      case measure =>
        obtain ⟨g', c', rfl, _⟩ := hown.form
        simp [sliceLen]; rw [← HLe.out]; omega
    · go_wp2_with fail
      go_ret
      exact ⟨_, rfl, own_eq HW2.out (by rw [HT.out]; exact pad_end Hj.out (by rw [← HLe.out]; exact g6))⟩

set_option maxHeartbeats 4000000 in
theorem text_tff (d0 d1 d2 d3 d4 d5 s0 s1 s2 s3 s4 s5 P V S T : Nat) (data : List Nat) (p : Option Addr) (n c : Nat) (f : Fr) (w : World) (hf : f = ⟨d0, d1, d2, d3, d4, d5, s0, s1, s2, s3, s4, s5, true, (V : Int), (P : Int), false, false, 0, (T : Int), data⟩)
    (hP : P ≤ 7) (hV : V ≤ 4094) (hS : S ≤ 65535) (hT : T ≤ 65535) (hl : n ≤ 2000) (hn : data.length = n) (hw : f.Wf) (hA : BArg w (.slice p n c) data) :
    Calls Try.prog 25 #[.agg #[.int .u8 (d0 : Int), .int .u8 (d1 : Int), .int .u8 (d2 : Int), .int .u8 (d3 : Int), .int .u8 (d4 : Int), .int .u8 (d5 : Int), .int .u8 (s0 : Int), .int .u8 (s1 : Int), .int .u8 (s2 : Int), .int .u8 (s3 : Int), .int .u8 (s4 : Int), .int .u8 (s5 : Int), .bool true, .int .i64 (V : Int), .int .i64 (P : Int), .bool false, .bool false, .int .i64 0, .int .i64 (T : Int), .slice p n c]] w (OwnPost w f.text) := by
  have HB0 : Hid (Boxed (w.alloc (.cells #[.int .u8 (d0 : Int), .int .u8 (d1 : Int), .int .u8 (d2 : Int), .int .u8 (d3 : Int), .int .u8 (d4 : Int), .int .u8 (d5 : Int), .int .u8 (s0 : Int), .int .u8 (s1 : Int), .int .u8 (s2 : Int), .int .u8 (s3 : Int), .int .u8 (s4 : Int), .int .u8 (s5 : Int), .bool true, .int .i64 (V : Int), .int .i64 (P : Int), .bool false, .bool false, .int .i64 0, .int .i64 (T : Int), .slice p n c] 26)) w.heap.size f (.slice p n c)) := Lib.hid (by subst hf; exact heap_alloc_new w _)
  have HSZ : Hid (Ret 18 #[.agg #[.int .u8 (d0 : Int), .int .u8 (d1 : Int), .int .u8 (d2 : Int), .int .u8 (d3 : Int), .int .u8 (d4 : Int), .int .u8 (d5 : Int), .int .u8 (s0 : Int), .int .u8 (s1 : Int), .int .u8 (s2 : Int), .int .u8 (s3 : Int), .int .u8 (s4 : Int), .int .u8 (s5 : Int), .bool true, .int .i64 (V : Int), .int .i64 (P : Int), .bool false, .bool false, .int .i64 0, .int .i64 (T : Int), .slice p n c]] (.int .i64 (f.size : Int))) := Lib.hid (by have := size_ret f p n c (by rw [hf]; exact hn) (by omega); subst hf; exact this)
  have CE : Hid (∀ wx, Boxed wx w.heap.size f (.slice p n c) → wx.cell? ⟨w.heap.size, 12, none⟩ = some (.bool true) ∧ wx.cell? ⟨w.heap.size, 14, none⟩ = some (.int .i64 (P : Int)) ∧ wx.cell? ⟨w.heap.size, 13, none⟩ = some (.int .i64 (V : Int)) ∧ wx.cell? ⟨w.heap.size, 15, none⟩ = some (.bool false) ∧ wx.cell? ⟨w.heap.size, 16, none⟩ = some (.bool false) ∧ wx.cell? ⟨w.heap.size, 18, none⟩ = some (.int .i64 (T : Int)) ∧ wx.cell? ⟨w.heap.size, 19, none⟩ = some (.slice p n c)) := Lib.hid (fun wx hb => by
    have e := hf
    subst e
    exact ⟨hb.c12, hb.c14, hb.c13, hb.c15, hb.c16, hb.c18, hb.c19⟩)
  have HD : Hid (∀ wx, Boxed wx w.heap.size f (.slice p n c) → BArg wx (.slice (some ⟨w.heap.size, 0, none⟩) 6 20) [d0, d1, d2, d3, d4, d5] ∧ BArg wx (.slice (some ⟨w.heap.size, 0, none⟩) 6 6) [d0, d1, d2, d3, d4, d5] ∧ BArg wx (.slice (some ⟨w.heap.size, 6, none⟩) 6 14) [s0, s1, s2, s3, s4, s5] ∧ BArg wx (.slice (some ⟨w.heap.size, 6, none⟩) 6 6) [s0, s1, s2, s3, s4, s5]) := Lib.hid (fun wx hb => by
    have e := hf
    have hh := hw.1
    subst e
    exact ⟨hb.dst hh 20 (by omega), hb.dst hh 6 (by omega), hb.src hh 14 (by omega), hb.src hh 6 (by omega)⟩)
  have hsz : f.size ≤ 4000 := by rw [hf]; unfold Fr.size Fr.extra; dsimp only; rw [hn]; simp only [if_true, if_false, Bool.false_eq_true]; omega
  have hil : f.ins.length ≤ 4000 := by have h1 := f.ins_len; have h2 := hsz; unfold Fr.size at h2; omega
  obtain ⟨H, hHe⟩ : ∃ x, x = P * 8192 + V := ⟨_, rfl⟩
  have hfin : Hid ((((([] ++ [d0, d1, d2, d3, d4, d5]) ++ [s0, s1, s2, s3, s4, s5]) ++ twos [33024, H]) ++ twos [T, n]) ++ data = f.ins) := Lib.hid (by rw [hf, hHe]; simp [Fr.ins, Fr.heads, Fr.tags, Fr.how, twos, hn])
  have HN := Lib.hid hn
  have HT : Hid (f.text = Fr.pad f.ins) := Lib.hid rfl
  have HF := Lib.hid hf
  clear hf hw
  obtain ⟨size, hse⟩ : ∃ x, x = f.size := ⟨_, rfl⟩
  rw [← hse] at HSZ hsz
  clear hse
  obtain ⟨ins, hie⟩ : ∃ x, x = f.ins := ⟨_, rfl⟩
  rw [← hie] at hfin HT hil
  have Hil := Lib.hid hil
  clear hil
  clear hie
  obtain ⟨text, hte⟩ : ∃ x, x = f.text := ⟨_, rfl⟩
  rw [← hte] at HT ⊢
  clear hte
  have HA := Lib.hid hA
  clear hA
  obtain ⟨i0, hi, hz0, hz1, hz2⟩ := info_parts Try.infoU8
  have hor := how_or P V hP hV
  rw [← hHe] at hor
  have hH : H < 65536 := by omega
  clear hHe
  go_enter Try.func25, Try.ntmps25
  go_wp2_with (first
    | (with_reducible refine at_loadF ?_; refine wpList_loadF rfl _ rfl w.heap.size rfl _ _ (heap_alloc_new w _) rfl ?_)
    | (go_at_call 18; (with_reducible refine (HSZ.out.go _).mono ?_); rintro e w1 ⟨rfl, hb⟩; have HB := Lib.hid (HB0.out.below hb); have HW := Lib.hid (bTr (bAl (bRef w) _) hb); clear hb)
    | (at_make; refine wpList_make_own _ rfl _ _ 24 rfl w.heap.size 5 i0 (.int .u8 0) 1 Try.underlying24 hi hz0 hz1 .i64 .i64 _ size rfl rfl (by omega) (by rw [hz2]; omega) (by unfold maxLen; omega) HW.out.size ?_; intro w2 hown hgrow; have HO := Lib.hid (OwnB.made hown hgrow HW.out); replace HB := Lib.hid (HB.out.oth (Oth.grown hgrow)); clear hown hgrow; obtain ⟨c12, c14, c13, c15, c16, c18, c19⟩ := CE.out _ HB.out)
    | (at_builtin; refine wpList_appo rfl _ _ rfl w _ (.slice (some ⟨w1.heap.size, 0, none⟩) 0 size) (.slice (some ⟨w.heap.size, 0, none⟩) 6 6) [] [d0, d1, d2, d3, d4, d5] rfl rfl HO.out (HD.out _ HB.out).2.1 (by simp) ?_; intro va wa hown hoth; replace HB := Lib.hid (HB.out.oth hoth); replace HO := Lib.hid hown; clear hown hoth; obtain ⟨c12, c14, c13, c15, c16, c18, c19⟩ := CE.out _ HB.out)
    | (at_builtin; refine wpList_appo rfl _ _ rfl w _ (.slice (some ⟨w1.heap.size, 0, none⟩) 0 size) (.slice (some ⟨w.heap.size, 0, none⟩) 6 20) [] [d0, d1, d2, d3, d4, d5] rfl rfl HO.out (HD.out _ HB.out).1 (by simp) ?_; intro va wa hown hoth; replace HB := Lib.hid (HB.out.oth hoth); replace HO := Lib.hid hown; clear hown hoth; obtain ⟨c12, c14, c13, c15, c16, c18, c19⟩ := CE.out _ HB.out)
    | (at_builtin; refine wpList_appo rfl _ _ rfl w _ va (.slice (some ⟨w.heap.size, 6, none⟩) 6 6) ([] ++ [d0, d1, d2, d3, d4, d5]) [s0, s1, s2, s3, s4, s5] rfl rfl HO.out (HD.out _ HB.out).2.2.2 (by simp) ?_; intro vs ws hown hoth; replace HB := Lib.hid (HB.out.oth hoth); replace HO := Lib.hid hown; clear hown hoth; obtain ⟨c12, c14, c13, c15, c16, c18, c19⟩ := CE.out _ HB.out)
    | (at_builtin; refine wpList_appo rfl _ _ rfl w _ va (.slice (some ⟨w.heap.size, 6, none⟩) 6 14) ([] ++ [d0, d1, d2, d3, d4, d5]) [s0, s1, s2, s3, s4, s5] rfl rfl HO.out (HD.out _ HB.out).2.2.1 (by simp) ?_; intro vs ws hown hoth; replace HB := Lib.hid (HB.out.oth hoth); replace HO := Lib.hid hown; clear hown hoth; obtain ⟨c12, c14, c13, c15, c16, c18, c19⟩ := CE.out _ HB.out)
    | (go_at_call 35; (with_reducible refine (put_any (HO.out.alloc _) (IArg.two _ 33024 H _ _ (by omega) (by omega) _) (fun k hk => two_small hk (by omega) hH) (by simp) (by simp)).mono ?_); rintro e wn ⟨vb, rfl, hown, hoth⟩; replace HB := Lib.hid ((HB.out.below (bAl (bRef _) _)).oth hoth); replace HO := Lib.hid hown; clear hown hoth; obtain ⟨c12, c14, c13, c15, c16, c18, c19⟩ := CE.out _ HB.out)
    | (go_at_call 35; (with_reducible refine (put_any (HO.out.alloc _) (IArg.two _ T n _ _ (by omega) (by omega) _) (fun k hk => two_small hk (by omega) (by omega)) (by simp [twos_len]) (by simp)).mono ?_); rintro e wn ⟨vb, rfl, hown, hoth⟩; replace HB := Lib.hid ((HB.out.below (bAl (bRef _) _)).oth hoth); replace HO := Lib.hid hown; clear hown hoth; obtain ⟨c12, c14, c13, c15, c16, c18, c19⟩ := CE.out _ HB.out)
    | (at_builtin; refine wpList_appo rfl _ _ rfl w _ vb (.slice p n c) ((((([] ++ [d0, d1, d2, d3, d4, d5]) ++ [s0, s1, s2, s3, s4, s5]) ++ twos [33024, H]) ++ twos [T, n])) data rfl rfl HO.out (HA.out.below HO.out.bel) (by simp [twos_len, HN.out]; omega) ?_; intro vd wd hown hoth; replace HO := Lib.hid (own_eq hown hfin.out); clear hown hoth))
  go_loopw [3] (fun bv wr => PadRel w ins bv wr) (fun bv _ => 60 - sliceLen bv)
  case atStart => exact ⟨0, by omega, own_eq HO.out (by simp)⟩
  case round =>
    obtain ⟨j, hj, hown⟩ := hrel
    obtain ⟨g, cc, rfl, hc, hg1, hg2⟩ := hown.form
    have hlen : (ins ++ List.replicate j 0).length = ins.length + j := by rw [List.length_append, List.length_replicate]
    rw [hlen] at hown hc ⊢
    have HW2 := Lib.hid hown
    obtain ⟨L, hL⟩ : ∃ x, x = ins.length := ⟨_, rfl⟩
    have HLe := Lib.hid hL
    have HLl := Lib.hid (show (ins ++ List.replicate j 0).length + [0].length ≤ 140737488355328 by rw [hlen]; have := Hil.out; simp; omega)
    have Hj := Lib.hid hj
    rw [← hL] at hj hc HW2 ⊢
    clear hown hlen hL
    rcases Nat.lt_or_ge (L + j) 60 with g6 | g6
    · have Hg6 := Lib.hid (show ins.length + j < 60 by rw [← HLe.out]; exact g6)
      go_wp2_with (at_builtin; refine wpList_app rfl _ _ rfl w _ (.slice (some ⟨g, 0, none⟩) (L + j) cc) (.slice (some ⟨wr.heap.size, 0, none⟩) 1 1) (ins ++ List.replicate j 0) [0] rfl rfl (HW2.out.alloc _) (BArg.one wr 0 (by omega) _ rfl _) HLl.out ?_; intro v3 w3 hown)
      go_roundw
      case rel => exact pad_go hown Hg6.out
      case measure =>
        obtain ⟨g', c', rfl, _⟩ := hown.form
        simp [sliceLen]; rw [← HLe.out]; omega
    · go_wp2_with fail
      go_ret
      exact ⟨_, rfl, own_eq HW2.out (by rw [HT.out]; exact pad_end Hj.out (by rw [← HLe.out]; exact g6))⟩

set_option maxHeartbeats 4000000 in
theorem text_fft (d0 d1 d2 d3 d4 d5 s0 s1 s2 s3 s4 s5 P V S T : Nat) (data : List Nat) (p : Option Addr) (n c : Nat) (f : Fr) (w : World) (hf : f = ⟨d0, d1, d2, d3, d4, d5, s0, s1, s2, s3, s4, s5, false, 0, 0, false, true, (S : Int), (T : Int), data⟩)
    (hP : P ≤ 7) (hV : V ≤ 4094) (hS : S ≤ 65535) (hT : T ≤ 65535) (hl : n ≤ 2000) (hn : data.length = n) (hw : f.Wf) (hA : BArg w (.slice p n c) data) :
    Calls Try.prog 25 #[.agg #[.int .u8 (d0 : Int), .int .u8 (d1 : Int), .int .u8 (d2 : Int), .int .u8 (d3 : Int), .int .u8 (d4 : Int), .int .u8 (d5 : Int), .int .u8 (s0 : Int), .int .u8 (s1 : Int), .int .u8 (s2 : Int), .int .u8 (s3 : Int), .int .u8 (s4 : Int), .int .u8 (s5 : Int), .bool false, .int .i64 0, .int .i64 0, .bool false, .bool true, .int .i64 (S : Int), .int .i64 (T : Int), .slice p n c]] w (OwnPost w f.text) := by
  have HB0 : Hid (Boxed (w.alloc (.cells #[.int .u8 (d0 : Int), .int .u8 (d1 : Int), .int .u8 (d2 : Int), .int .u8 (d3 : Int), .int .u8 (d4 : Int), .int .u8 (d5 : Int), .int .u8 (s0 : Int), .int .u8 (s1 : Int), .int .u8 (s2 : Int), .int .u8 (s3 : Int), .int .u8 (s4 : Int), .int .u8 (s5 : Int), .bool false, .int .i64 0, .int .i64 0, .bool false, .bool true, .int .i64 (S : Int), .int .i64 (T : Int), .slice p n c] 26)) w.heap.size f (.slice p n c)) := Lib.hid (by subst hf; exact heap_alloc_new w _)
  have HSZ : Hid (Ret 18 #[.agg #[.int .u8 (d0 : Int), .int .u8 (d1 : Int), .int .u8 (d2 : Int), .int .u8 (d3 : Int), .int .u8 (d4 : Int), .int .u8 (d5 : Int), .int .u8 (s0 : Int), .int .u8 (s1 : Int), .int .u8 (s2 : Int), .int .u8 (s3 : Int), .int .u8 (s4 : Int), .int .u8 (s5 : Int), .bool false, .int .i64 0, .int .i64 0, .bool false, .bool true, .int .i64 (S : Int), .int .i64 (T : Int), .slice p n c]] (.int .i64 (f.size : Int))) := Lib.hid (by have := size_ret f p n c (by rw [hf]; exact hn) (by omega); subst hf; exact this)
  have CE : Hid (∀ wx, Boxed wx w.heap.size f (.slice p n c) → wx.cell? ⟨w.heap.size, 12, none⟩ = some (.bool false) ∧ wx.cell? ⟨w.heap.size, 16, none⟩ = some (.bool true) ∧ wx.cell? ⟨w.heap.size, 17, none⟩ = some (.int .i64 (S : Int)) ∧ wx.cell? ⟨w.heap.size, 18, none⟩ = some (.int .i64 (T : Int)) ∧ wx.cell? ⟨w.heap.size, 19, none⟩ = some (.slice p n c)) := Lib.hid (fun wx hb => by
    have e := hf
    subst e
    exact ⟨hb.c12, hb.c16, hb.c17, hb.c18, hb.c19⟩)
  have HD : Hid (∀ wx, Boxed wx w.heap.size f (.slice p n c) → BArg wx (.slice (some ⟨w.heap.size, 0, none⟩) 6 20) [d0, d1, d2, d3, d4, d5] ∧ BArg wx (.slice (some ⟨w.heap.size, 0, none⟩) 6 6) [d0, d1, d2, d3, d4, d5] ∧ BArg wx (.slice (some ⟨w.heap.size, 6, none⟩) 6 14) [s0, s1, s2, s3, s4, s5] ∧ BArg wx (.slice (some ⟨w.heap.size, 6, none⟩) 6 6) [s0, s1, s2, s3, s4, s5]) := Lib.hid (fun wx hb => by
    have e := hf
    have hh := hw.1
    subst e
    exact ⟨hb.dst hh 20 (by omega), hb.dst hh 6 (by omega), hb.src hh 14 (by omega), hb.src hh 6 (by omega)⟩)
  have hsz : f.size ≤ 4000 := by rw [hf]; unfold Fr.size Fr.extra; dsimp only; rw [hn]; simp only [if_true, if_false, Bool.false_eq_true]; omega
  have hil : f.ins.length ≤ 4000 := by have h1 := f.ins_len; have h2 := hsz; unfold Fr.size at h2; omega
  have hfin : Hid ((((([] ++ [d0, d1, d2, d3, d4, d5]) ++ [s0, s1, s2, s3, s4, s5]) ++ twos [61889, 0, S]) ++ twos [T, n]) ++ data = f.ins) := Lib.hid (by rw [hf]; simp [Fr.ins, Fr.heads, Fr.tags, Fr.how, twos, hn])
  have HN := Lib.hid hn
  have HT : Hid (f.text = Fr.pad f.ins) := Lib.hid rfl
  have HF := Lib.hid hf
  clear hf hw
  obtain ⟨size, hse⟩ : ∃ x, x = f.size := ⟨_, rfl⟩
  rw [← hse] at HSZ hsz
  clear hse
  obtain ⟨ins, hie⟩ : ∃ x, x = f.ins := ⟨_, rfl⟩
  rw [← hie] at hfin HT hil
  have Hil := Lib.hid hil
  clear hil
  clear hie
  obtain ⟨text, hte⟩ : ∃ x, x = f.text := ⟨_, rfl⟩
  rw [← hte] at HT ⊢
  clear hte
  have HA := Lib.hid hA
  clear hA
  obtain ⟨i0, hi, hz0, hz1, hz2⟩ := info_parts Try.infoU8
  go_enter Try.func25, Try.ntmps25
  go_wp2_with (first
    | (with_reducible refine at_loadF ?_; refine wpList_loadF rfl _ rfl w.heap.size rfl _ _ (heap_alloc_new w _) rfl ?_)
    | (go_at_call 18; (with_reducible refine (HSZ.out.go _).mono ?_); rintro e w1 ⟨rfl, hb⟩; have HB := Lib.hid (HB0.out.below hb); have HW := Lib.hid (bTr (bAl (bRef w) _) hb); clear hb)
    | (at_make; refine wpList_make_own _ rfl _ _ 24 rfl w.heap.size 5 i0 (.int .u8 0) 1 Try.underlying24 hi hz0 hz1 .i64 .i64 _ size rfl rfl (by omega) (by rw [hz2]; omega) (by unfold maxLen; omega) HW.out.size ?_; intro w2 hown hgrow; have HO := Lib.hid (OwnB.made hown hgrow HW.out); replace HB := Lib.hid (HB.out.oth (Oth.grown hgrow)); clear hown hgrow; obtain ⟨c12, c16, c17, c18, c19⟩ := CE.out _ HB.out)
    | (at_builtin; refine wpList_appo rfl _ _ rfl w _ (.slice (some ⟨w1.heap.size, 0, none⟩) 0 size) (.slice (some ⟨w.heap.size, 0, none⟩) 6 6) [] [d0, d1, d2, d3, d4, d5] rfl rfl HO.out (HD.out _ HB.out).2.1 (by simp) ?_; intro va wa hown hoth; replace HB := Lib.hid (HB.out.oth hoth); replace HO := Lib.hid hown; clear hown hoth; obtain ⟨c12, c16, c17, c18, c19⟩ := CE.out _ HB.out)
    | (at_builtin; refine wpList_appo rfl _ _ rfl w _ (.slice (some ⟨w1.heap.size, 0, none⟩) 0 size) (.slice (some ⟨w.heap.size, 0, none⟩) 6 20) [] [d0, d1, d2, d3, d4, d5] rfl rfl HO.out (HD.out _ HB.out).1 (by simp) ?_; intro va wa hown hoth; replace HB := Lib.hid (HB.out.oth hoth); replace HO := Lib.hid hown; clear hown hoth; obtain ⟨c12, c16, c17, c18, c19⟩ := CE.out _ HB.out)
    | (at_builtin; refine wpList_appo rfl _ _ rfl w _ va (.slice (some ⟨w.heap.size, 6, none⟩) 6 6) ([] ++ [d0, d1, d2, d3, d4, d5]) [s0, s1, s2, s3, s4, s5] rfl rfl HO.out (HD.out _ HB.out).2.2.2 (by simp) ?_; intro vs ws hown hoth; replace HB := Lib.hid (HB.out.oth hoth); replace HO := Lib.hid hown; clear hown hoth; obtain ⟨c12, c16, c17, c18, c19⟩ := CE.out _ HB.out)
    | (at_builtin; refine wpList_appo rfl _ _ rfl w _ va (.slice (some ⟨w.heap.size, 6, none⟩) 6 14) ([] ++ [d0, d1, d2, d3, d4, d5]) [s0, s1, s2, s3, s4, s5] rfl rfl HO.out (HD.out _ HB.out).2.2.1 (by simp) ?_; intro vs ws hown hoth; replace HB := Lib.hid (HB.out.oth hoth); replace HO := Lib.hid hown; clear hown hoth; obtain ⟨c12, c16, c17, c18, c19⟩ := CE.out _ HB.out)
    | (go_at_call 35; (with_reducible refine (put_any (HO.out.alloc _) (IArg.three _ 61889 0 S _ _ _ (by omega) (by omega) (by omega) _) (fun k hk => three_small hk (by omega) (by omega) (by omega)) (by simp [twos_len]) (by simp)).mono ?_); rintro e wn ⟨vb, rfl, hown, hoth⟩; replace HB := Lib.hid ((HB.out.below (bAl (bRef _) _)).oth hoth); replace HO := Lib.hid hown; clear hown hoth; obtain ⟨c12, c16, c17, c18, c19⟩ := CE.out _ HB.out)
    | (go_at_call 35; (with_reducible refine (put_any (HO.out.alloc _) (IArg.two _ T n _ _ (by omega) (by omega) _) (fun k hk => two_small hk (by omega) (by omega)) (by simp [twos_len]) (by simp)).mono ?_); rintro e wn ⟨vb, rfl, hown, hoth⟩; replace HB := Lib.hid ((HB.out.below (bAl (bRef _) _)).oth hoth); replace HO := Lib.hid hown; clear hown hoth; obtain ⟨c12, c16, c17, c18, c19⟩ := CE.out _ HB.out)
    | (at_builtin; refine wpList_appo rfl _ _ rfl w _ vb (.slice p n c) ((((([] ++ [d0, d1, d2, d3, d4, d5]) ++ [s0, s1, s2, s3, s4, s5]) ++ twos [61889, 0, S]) ++ twos [T, n])) data rfl rfl HO.out (HA.out.below HO.out.bel) (by simp [twos_len, HN.out]; omega) ?_; intro vd wd hown hoth; replace HO := Lib.hid (own_eq hown hfin.out); clear hown hoth))
  go_loopw [3] (fun bv wr => PadRel w ins bv wr) (fun bv _ => 60 - sliceLen bv)
  case atStart => exact ⟨0, by omega, own_eq HO.out (by simp)⟩
  case round =>
    obtain ⟨j, hj, hown⟩ := hrel
    obtain ⟨g, cc, rfl, hc, hg1, hg2⟩ := hown.form
    have hlen : (ins ++ List.replicate j 0).length = ins.length + j := by rw [List.length_append, List.length_replicate]
    rw [hlen] at hown hc ⊢
    have HW2 := Lib.hid hown
    obtain ⟨L, hL⟩ : ∃ x, x = ins.length := ⟨_, rfl⟩
    have HLe := Lib.hid hL
    have HLl := Lib.hid (show (ins ++ List.replicate j 0).length + [0].length ≤ 140737488355328 by rw [hlen]; have := Hil.out; simp; omega)
    have Hj := Lib.hid hj
    rw [← hL] at hj hc HW2 ⊢
    clear hown hlen hL
    rcases Nat.lt_or_ge (L + j) 60 with g6 | g6
    · have Hg6 := Lib.hid (show ins.length + j < 60 by rw [← HLe.out]; exact g6)
      go_wp2_with (at_builtin; refine wpList_app rfl _ _ rfl w _ (.slice (some ⟨g, 0, none⟩) (L + j) cc) (.slice (some ⟨wr.heap.size, 0, none⟩) 1 1) (ins ++ List.replicate j 0) [0] rfl rfl (HW2.out.alloc _) (BArg.one wr 0 (by omega) _ rfl _) HLl.out ?_; intro v3 w3 hown)
      go_roundw
      case rel => exact pad_go hown Hg6.out
      case measure =>
        obtain ⟨g', c', rfl, _⟩ := hown.form
        simp [sliceLen]; rw [← HLe.out]; omega
    · go_wp2_with fail
      go_ret
      exact ⟨_, rfl, own_eq HW2.out (by rw [HT.out]; exact pad_end Hj.out (by rw [← HLe.out]; exact g6))⟩

set_option maxHeartbeats 4000000 in
theorem text_fff (d0 d1 d2 d3 d4 d5 s0 s1 s2 s3 s4 s5 P V S T : Nat) (data : List Nat) (p : Option Addr) (n c : Nat) (f : Fr) (w : World) (hf : f = ⟨d0, d1, d2, d3, d4, d5, s0, s1, s2, s3, s4, s5, false, 0, 0, false, false, 0, (T : Int), data⟩)
    (hP : P ≤ 7) (hV : V ≤ 4094) (hS : S ≤ 65535) (hT : T ≤ 65535) (hl : n ≤ 2000) (hn : data.length = n) (hw : f.Wf) (hA : BArg w (.slice p n c) data) :
    Calls Try.prog 25 #[.agg #[.int .u8 (d0 : Int), .int .u8 (d1 : Int), .int .u8 (d2 : Int), .int .u8 (d3 : Int), .int .u8 (d4 : Int), .int .u8 (d5 : Int), .int .u8 (s0 : Int), .int .u8 (s1 : Int), .int .u8 (s2 : Int), .int .u8 (s3 : Int), .int .u8 (s4 : Int), .int .u8 (s5 : Int), .bool false, .int .i64 0, .int .i64 0, .bool false, .bool false, .int .i64 0, .int .i64 (T : Int), .slice p n c]] w (OwnPost w f.text) := by
  have HB0 : Hid (Boxed (w.alloc (.cells #[.int .u8 (d0 : Int), .int .u8 (d1 : Int), .int .u8 (d2 : Int), .int .u8 (d3 : Int), .int .u8 (d4 : Int), .int .u8 (d5 : Int), .int .u8 (s0 : Int), .int .u8 (s1 : Int), .int .u8 (s2 : Int), .int .u8 (s3 : Int), .int .u8 (s4 : Int), .int .u8 (s5 : Int), .bool false, .int .i64 0, .int .i64 0, .bool false, .bool false, .int .i64 0, .int .i64 (T : Int), .slice p n c] 26)) w.heap.size f (.slice p n c)) := Lib.hid (by subst hf; exact heap_alloc_new w _)
  have HSZ : Hid (Ret 18 #[.agg #[.int .u8 (d0 : Int), .int .u8 (d1 : Int), .int .u8 (d2 : Int), .int .u8 (d3 : Int), .int .u8 (d4 : Int), .int .u8 (d5 : Int), .int .u8 (s0 : Int), .int .u8 (s1 : Int), .int .u8 (s2 : Int), .int .u8 (s3 : Int), .int .u8 (s4 : Int), .int .u8 (s5 : Int), .bool false, .int .i64 0, .int .i64 0, .bool false, .bool false, .int .i64 0, .int .i64 (T : Int), .slice p n c]] (.int .i64 (f.size : Int))) := Lib.hid (by have := size_ret f p n c (by rw [hf]; exact hn) (by omega); subst hf; exact this)
  have CE : Hid (∀ wx, Boxed wx w.heap.size f (.slice p n c) → wx.cell? ⟨w.heap.size, 12, none⟩ = some (.bool false) ∧ wx.cell? ⟨w.heap.size, 16, none⟩ = some (.bool false) ∧ wx.cell? ⟨w.heap.size, 18, none⟩ = some (.int .i64 (T : Int)) ∧ wx.cell? ⟨w.heap.size, 19, none⟩ = some (.slice p n c)) := Lib.hid (fun wx hb => by
    have e := hf
    subst e
    exact ⟨hb.c12, hb.c16, hb.c18, hb.c19⟩)
  have HD : Hid (∀ wx, Boxed wx w.heap.size f (.slice p n c) → BArg wx (.slice (some ⟨w.heap.size, 0, none⟩) 6 20) [d0, d1, d2, d3, d4, d5] ∧ BArg wx (.slice (some ⟨w.heap.size, 0, none⟩) 6 6) [d0, d1, d2, d3, d4, d5] ∧ BArg wx (.slice (some ⟨w.heap.size, 6, none⟩) 6 14) [s0, s1, s2, s3, s4, s5] ∧ BArg wx (.slice (some ⟨w.heap.size, 6, none⟩) 6 6) [s0, s1, s2, s3, s4, s5]) := Lib.hid (fun wx hb => by
    have e := hf
    have hh := hw.1
    subst e
    exact ⟨hb.dst hh 20 (by omega), hb.dst hh 6 (by omega), hb.src hh 14 (by omega), hb.src hh 6 (by omega)⟩)
  have hsz : f.size ≤ 4000 := by rw [hf]; unfold Fr.size Fr.extra; dsimp only; rw [hn]; simp only [if_false, Bool.false_eq_true]; omega
  have hil : f.ins.length ≤ 4000 := by have h1 := f.ins_len; have h2 := hsz; unfold Fr.size at h2; omega
  have hfin : Hid (((([] ++ [d0, d1, d2, d3, d4, d5]) ++ [s0, s1, s2, s3, s4, s5]) ++ twos [T, n]) ++ data = f.ins) := Lib.hid (by rw [hf]; simp [Fr.ins, Fr.heads, Fr.tags, Fr.how, twos, hn])
  have HN := Lib.hid hn
  have HT : Hid (f.text = Fr.pad f.ins) := Lib.hid rfl
  have HF := Lib.hid hf
  clear hf hw
  obtain ⟨size, hse⟩ : ∃ x, x = f.size := ⟨_, rfl⟩
  rw [← hse] at HSZ hsz
  clear hse
  obtain ⟨ins, hie⟩ : ∃ x, x = f.ins := ⟨_, rfl⟩
  rw [← hie] at hfin HT hil
  have Hil := Lib.hid hil
  clear hil
  clear hie
  obtain ⟨text, hte⟩ : ∃ x, x = f.text := ⟨_, rfl⟩
  rw [← hte] at HT ⊢
  clear hte
  have HA := Lib.hid hA
  clear hA
  obtain ⟨i0, hi, hz0, hz1, hz2⟩ := info_parts Try.infoU8
  go_enter Try.func25, Try.ntmps25
  go_wp2_with (first
    | (with_reducible refine at_loadF ?_; refine wpList_loadF rfl _ rfl w.heap.size rfl _ _ (heap_alloc_new w _) rfl ?_)
    | (go_at_call 18; (with_reducible refine (HSZ.out.go _).mono ?_); rintro e w1 ⟨rfl, hb⟩; have HB := Lib.hid (HB0.out.below hb); have HW := Lib.hid (bTr (bAl (bRef w) _) hb); clear hb)
    | (at_make; refine wpList_make_own _ rfl _ _ 24 rfl w.heap.size 5 i0 (.int .u8 0) 1 Try.underlying24 hi hz0 hz1 .i64 .i64 _ size rfl rfl (by omega) (by rw [hz2]; omega) (by unfold maxLen; omega) HW.out.size ?_; intro w2 hown hgrow; have HO := Lib.hid (OwnB.made hown hgrow HW.out); replace HB := Lib.hid (HB.out.oth (Oth.grown hgrow)); clear hown hgrow; obtain ⟨c12, c16, c18, c19⟩ := CE.out _ HB.out)
    | (at_builtin; refine wpList_appo rfl _ _ rfl w _ (.slice (some ⟨w1.heap.size, 0, none⟩) 0 size) (.slice (some ⟨w.heap.size, 0, none⟩) 6 6) [] [d0, d1, d2, d3, d4, d5] rfl rfl HO.out (HD.out _ HB.out).2.1 (by simp) ?_; intro va wa hown hoth; replace HB := Lib.hid (HB.out.oth hoth); replace HO := Lib.hid hown; clear hown hoth; obtain ⟨c12, c16, c18, c19⟩ := CE.out _ HB.out)
    | (at_builtin; refine wpList_appo rfl _ _ rfl w _ (.slice (some ⟨w1.heap.size, 0, none⟩) 0 size) (.slice (some ⟨w.heap.size, 0, none⟩) 6 20) [] [d0, d1, d2, d3, d4, d5] rfl rfl HO.out (HD.out _ HB.out).1 (by simp) ?_; intro va wa hown hoth; replace HB := Lib.hid (HB.out.oth hoth); replace HO := Lib.hid hown; clear hown hoth; obtain ⟨c12, c16, c18, c19⟩ := CE.out _ HB.out)
    | (at_builtin; refine wpList_appo rfl _ _ rfl w _ va (.slice (some ⟨w.heap.size, 6, none⟩) 6 6) ([] ++ [d0, d1, d2, d3, d4, d5]) [s0, s1, s2, s3, s4, s5] rfl rfl HO.out (HD.out _ HB.out).2.2.2 (by simp) ?_; intro vs ws hown hoth; replace HB := Lib.hid (HB.out.oth hoth); replace HO := Lib.hid hown; clear hown hoth; obtain ⟨c12, c16, c18, c19⟩ := CE.out _ HB.out)
    | (at_builtin; refine wpList_appo rfl _ _ rfl w _ va (.slice (some ⟨w.heap.size, 6, none⟩) 6 14) ([] ++ [d0, d1, d2, d3, d4, d5]) [s0, s1, s2, s3, s4, s5] rfl rfl HO.out (HD.out _ HB.out).2.2.1 (by simp) ?_; intro vs ws hown hoth; replace HB := Lib.hid (HB.out.oth hoth); replace HO := Lib.hid hown; clear hown hoth; obtain ⟨c12, c16, c18, c19⟩ := CE.out _ HB.out)
    | (go_at_call 35; (with_reducible refine (put_any (HO.out.alloc _) (IArg.two _ T n _ _ (by omega) (by omega) _) (fun k hk => two_small hk (by omega) (by omega)) (by simp [twos_len]) (by simp)).mono ?_); rintro e wn ⟨vb, rfl, hown, hoth⟩; replace HB := Lib.hid ((HB.out.below (bAl (bRef _) _)).oth hoth); replace HO := Lib.hid hown; clear hown hoth; obtain ⟨c12, c16, c18, c19⟩ := CE.out _ HB.out)
    | (at_builtin; refine wpList_appo rfl _ _ rfl w _ vb (.slice p n c) (((([] ++ [d0, d1, d2, d3, d4, d5]) ++ [s0, s1, s2, s3, s4, s5]) ++ twos [T, n])) data rfl rfl HO.out (HA.out.below HO.out.bel) (by simp [twos_len, HN.out]; omega) ?_; intro vd wd hown hoth; replace HO := Lib.hid (own_eq hown hfin.out); clear hown hoth))
  go_loopw [3] (fun bv wr => PadRel w ins bv wr) (fun bv _ => 60 - sliceLen bv)
  case atStart => exact ⟨0, by omega, own_eq HO.out (by simp)⟩
  case round =>
    obtain ⟨j, hj, hown⟩ := hrel
    obtain ⟨g, cc, rfl, hc, hg1, hg2⟩ := hown.form
    have hlen : (ins ++ List.replicate j 0).length = ins.length + j := by rw [List.length_append, List.length_replicate]
    rw [hlen] at hown hc ⊢
    have HW2 := Lib.hid hown
    obtain ⟨L, hL⟩ : ∃ x, x = ins.length := ⟨_, rfl⟩
    have HLe := Lib.hid hL
    have HLl := Lib.hid (show (ins ++ List.replicate j 0).length + [0].length ≤ 140737488355328 by rw [hlen]; have := Hil.out; simp; omega)
    have Hj := Lib.hid hj
    rw [← hL] at hj hc HW2 ⊢
    clear hown hlen hL
    rcases Nat.lt_or_ge (L + j) 60 with g6 | g6
    · have Hg6 := Lib.hid (show ins.length + j < 60 by rw [← HLe.out]; exact g6)
      go_wp2_with (at_builtin; refine wpList_app rfl _ _ rfl w _ (.slice (some ⟨g, 0, none⟩) (L + j) cc) (.slice (some ⟨wr.heap.size, 0, none⟩) 1 1) (ins ++ List.replicate j 0) [0] rfl rfl (HW2.out.alloc _) (BArg.one wr 0 (by omega) _ rfl _) HLl.out ?_; intro v3 w3 hown)
      go_roundw
      case rel => exact pad_go hown Hg6.out
      case measure =>
        obtain ⟨g', c', rfl, _⟩ := hown.form
        simp [sliceLen]; rw [← HLe.out]; omega
    · go_wp2_with fail
      go_ret
      exact ⟨_, rfl, own_eq HW2.out (by rw [HT.out]; exact pad_end Hj.out (by rw [← HLe.out]; exact g6))⟩

theorem text_any (f : Fr) (v : Value) (w : World) (hr : f.Right) (hw : f.Wf) (hl : f.data.length ≤ 2000) (hA : BArg w v f.data) : Calls Try.prog 25 #[FV f v] w (OwnPost w f.text) := by
  obtain ⟨p, c, rfl⟩ := hA.slice
  obtain ⟨d0, d1, d2, d3, d4, d5, s0, s1, s2, s3, s4, s5, tg, vid, prio, dr, mn, seq, typ, data⟩ := f
  obtain ⟨h1, h2, h3, h4, h5, h6, h7, h8, h9, h10⟩ := hr
  dsimp only at h1 h2 h3 h4 h5 h6 h7 h8 h9 h10 hl hA ⊢
  obtain ⟨V, rfl⟩ : ∃ x : Nat, vid = (x : Int) := ⟨vid.toNat, by omega⟩
  obtain ⟨P, rfl⟩ : ∃ x : Nat, prio = (x : Int) := ⟨prio.toNat, by omega⟩
  obtain ⟨S, rfl⟩ : ∃ x : Nat, seq = (x : Int) := ⟨seq.toNat, by omega⟩
  obtain ⟨T, rfl⟩ : ∃ x : Nat, typ = (x : Int) := ⟨typ.toNat, by omega⟩
  cases tg with
  | true =>
    cases mn with
    | true =>
      cases dr with
      | true => exact text_ttt d0 d1 d2 d3 d4 d5 s0 s1 s2 s3 s4 s5 P V S T data p _ c _ w rfl (by omega) (by omega) (by omega) (by omega) hl rfl hw hA
      | false => exact text_tft d0 d1 d2 d3 d4 d5 s0 s1 s2 s3 s4 s5 P V S T data p _ c _ w rfl (by omega) (by omega) (by omega) (by omega) hl rfl hw hA
    | false =>
      have hs : (S : Int) = 0 := h10 rfl
      rw [hs] at hw ⊢
      cases dr with
      | true => exact text_ttf d0 d1 d2 d3 d4 d5 s0 s1 s2 s3 s4 s5 P V 0 T data p _ c _ w rfl (by omega) (by omega) (by omega) (by omega) hl rfl hw hA
      | false => exact text_tff d0 d1 d2 d3 d4 d5 s0 s1 s2 s3 s4 s5 P V 0 T data p _ c _ w rfl (by omega) (by omega) (by omega) (by omega) hl rfl hw hA
  | false =>
    obtain ⟨hv, hp, hd⟩ := h9 rfl
    rw [hv, hp, hd] at hw ⊢
    cases mn with
    | true => exact text_fft d0 d1 d2 d3 d4 d5 s0 s1 s2 s3 s4 s5 0 0 S T data p _ c _ w rfl (by omega) (by omega) (by omega) (by omega) hl rfl hw hA
    | false =>
      have hs : (S : Int) = 0 := h10 rfl
      rw [hs] at hw ⊢
      exact text_fff d0 d1 d2 d3 d4 d5 s0 s1 s2 s3 s4 s5 0 0 0 T data p _ c _ w rfl (by omega) (by omega) (by omega) (by omega) hl rfl hw hA

end Go.Proofs.Ytbpkjljienadiaa
