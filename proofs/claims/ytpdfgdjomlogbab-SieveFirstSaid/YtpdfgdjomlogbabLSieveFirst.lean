/- For every row of streams and every step SieveFirst answers true: of streams that a frame could be of it is of the first; a stream more behind them changes nothing. No condition. -/
import Derived.Test.YtpdfgdjomlogbabFSieveFirst
import Derived.Test.YtpdfgdjomlogbabSvMany
namespace Go.Proofs.Ytpdfgdjomlogbab
open Go.RowKit Go.Joins

theorem first_long (q : Option Addr) (n c : Nat) (t : Tp) (w : World) (h : 30 < n) :
    Calls Try.prog 5 #[.slice q n c, .agg (TA t)] w fun e w' => e = .returned (.bool true) ∧ Below w.heap.size w w' := by
  have HH := Lib.hid head_ret
  have HT0 := Lib.hid (TB.new w t)
  have d1 : decide ((30 : Int) < (n : Int)) = true := decide_eq_true (by omega)
  clear h
  go_enter Try.func5, Try.ntmps5
  go_wp2_with (go_at_call 7; (with_reducible refine (HH.out _).mono ?_); rintro e v1 ⟨rfl, hb⟩; have HT1 := Lib.hid (HT0.out.below hb); clear hb)
  go_ret
  exact ⟨rfl, HT1.out.bel⟩
def F1Rel (w : World) (t : Tp) (n : Nat) (kv : Value) (W : World) : Prop := ∃ k : Nat, k ≤ n ∧ kv = .int .i64 (k : Int) ∧ TB w t W
set_option maxRecDepth 20000 in
set_option maxHeartbeats 4000000 in
theorem first_few (q : Option Addr) (n c : Nat) (L : List Sm) (t : Tp) (w : World) (h : SmArg w (.slice q n c) L) (hn : n = L.length) (hl : ¬ 30 < n) :
    Calls Try.prog 5 #[.slice q n c, .agg (TA t)] w fun e w' => e = .returned (.bool true) ∧ Below w.heap.size w w' := by
  have HH := Lib.hid head_ret
  have HT0 := Lib.hid (TB.new w t)
  have d1 : decide ((30 : Int) < (n : Int)) = false := decide_eq_false (by omega)
  have HA := Lib.hid (fun W (ht : TB w t W) => h.below ht.bel)
  have HN := Lib.hid hn
  clear h hn
  go_enter Try.func5, Try.ntmps5
  go_wp2_with (go_at_call 7; (with_reducible refine (HH.out _).mono ?_); rintro e v1 ⟨rfl, hb⟩; have HT1 := Lib.hid (HT0.out.below hb); clear hb)
  go_loopw [23] (fun kv wr => F1Rel w t n kv wr) (fun kv _ => n - (intOf kv).toNat)
  case atStart => exact ⟨0, by omega, rfl, HT1.out⟩
  case round =>
    clear HT1 HT0
    obtain ⟨k, hk, rfl, hT⟩ := hrel
    have HT := Lib.hid hT
    rcases Nat.lt_or_ge k n with g | g
    · have hd : decide ((k : Int) < (n : Int)) = true := decide_eq_true (by omega)
      rcases HA.out _ hT with ⟨e, _⟩ | ⟨h0, gg, oo, cap, e, hg, hcp, hcl⟩
      · rw [e] at HN; have := HN.out; simp at this; omega
      rw [← HN.out] at e hcp
      injection e with e1 _ e3
      subst e1 e3
      have HX := Lib.hid (hcl k (by rw [← HN.out]; exact g))
      generalize L.getD k default = x at HX
      have c9 : (wr.alloc (.cells (SA x) 28)).cell? ⟨wr.heap.size, 9, none⟩ = some (.int .i64 x.gate) := cell_of_row _ _ 9 _ _ _ (heap_alloc_one wr _)
      have c13 : (wr.alloc (.cells (SA x) 28)).cell? ⟨wr.heap.size, 13, none⟩ = some (.int .i64 x.rate) := cell_of_row _ _ 13 _ _ _ (heap_alloc_one wr _)
      have HT2 := Lib.hid (hT.below (bAl (bRef wr) (.cells (SA x) 28)))
      clear hT hg hcl
      by_cases hga : x.gate = -1
      · have e1 : (x.gate != -1) = false := by simpa using hga
        by_cases hra : x.rate = -1
        · have e2 : (x.rate != -1) = false := by simpa using hra
          clear hga hra
          go_wp2_with (first
            | (with_reducible refine at_storeSm ?_; refine wpList_storeSm rfl _ _ rfl x _ rfl rfl rfl ?_)
            | (with_reducible refine at_loadSm ?_; refine wpList_loadSm rfl _ rfl gg (oo + k * 14) rfl x HX.out ?_))
          go_roundw
          case rel => exact ⟨k + 1, by omega, by go_num, HT2.out⟩
          case measure => simp [intOf]; omega
        · have e2 : (x.rate != -1) = true := by simpa using hra
          clear hga hra
          go_wp2_with (first
            | (with_reducible refine at_storeSm ?_; refine wpList_storeSm rfl _ _ rfl x _ rfl rfl rfl ?_)
            | (with_reducible refine at_loadSm ?_; refine wpList_loadSm rfl _ rfl gg (oo + k * 14) rfl x HX.out ?_))
          go_ret
          exact ⟨rfl, HT2.out.bel⟩
      · have e1 : (x.gate != -1) = true := by simpa using hga
        clear hga
        go_wp2_with (first
          | (with_reducible refine at_storeSm ?_; refine wpList_storeSm rfl _ _ rfl x _ rfl rfl rfl ?_)
          | (with_reducible refine at_loadSm ?_; refine wpList_loadSm rfl _ rfl gg (oo + k * 14) rfl x HX.out ?_))
        go_ret
        exact ⟨rfl, HT2.out.bel⟩
    · obtain rfl : k = n := by omega
      have hd : decide ((k : Int) < (k : Int)) = false := decide_eq_false (by omega)
      have hAr := HA.out _ hT
      by_cases hall : AllR L
      · have hl64 : L.length ≤ 64 := by rw [← HN.out]; omega
        have HNW := Lib.hid (newS_yes hAr hl64 hall)
        have HAll := Lib.hid hall
        have HLn : Hid (L.length ≤ 30) := Lib.hid (by rw [← HN.out]; omega)
        have HAW := Lib.hid hAr
        clear hT hAr hall hl64
        go_upto_region 18 with (first
          | (go_at_call 8; (first
              | (have p0 := HR2; (with_reducible refine (newS_yes (smarg_row HR2.out.1) (by have := HLn.out; simp; omega) HAll.out.dbl).mono ?_); rintro e w4 ⟨rfl, vb, hns⟩; have HNb := Lib.hid hns; have HB4 := Lib.hid (HB3.out.trans (hns.bel.mono HB3.out.size)); have HB14 := Lib.hid (HR2.out.2.2.trans (hns.bel.mono HR2.out.2.2.size)); clear hns p0)
              | ((with_reducible refine (HNW.out).mono ?_); rintro e w1 ⟨rfl, va, hns⟩; have HNa := Lib.hid hns; have HB1 := Lib.hid hns.bel; clear hns)))
          | (at_builtin; first
              | (have p0 := HR1; refine wpList_appSm rfl _ _ rfl w1.heap.size vA (.slice q k c) L L rfl rfl HR1.out.1 HR1.out.2.2.size (HAW.out.below HB2.out) (by have := HLn.out; omega) HR1.out.2.1 ?_; intro vB w3 r1 r2 r3; have HR2 := Lib.hid (And.intro r1 (And.intro r2 (HR1.out.2.2.trans r3))); have HB3 := Lib.hid (HB2.out.trans (r3.mono HB1.out.size)); clear r1 r2 r3 p0)
              | (refine wpList_appSm rfl _ _ rfl w1.heap.size (.slice (some ⟨w1.heap.size, 0, none⟩) 0 0) (.slice q k c) [] L rfl rfl (World.ownsRow_made w1 #[] 0 (Nat.le_refl _) (by unfold maxLen; omega) rfl) (by simp) ((HAW.out.below HB1.out).below (bAl (bRef w1) _)) (by have := HLn.out; simp; omega) (by simp) ?_; intro vA w2 r1 r2 r3; have HR1 := Lib.hid (And.intro r1 (And.intro r2 ((bAl (bRef w1) (.cells #[] 28)).trans r3))); have HB2 := Lib.hid (HB1.out.trans (HR1.out.2.2.mono HB1.out.size)); clear r1 r2 r3)))
        have HT4 := Lib.hid (HT.out.belowN HB4.out HT.out.lt)
        have HNa4 := Lib.hid (HNa.out.below HB14.out)
        have hFa := find_any HNa4.out.box HNa4.out.farg (by have := HLn.out; simp; omega) t.port t.vid t.dst t.src
        have hFb := fun W (hh : NS w3 w3.heap.size vb ((L ++ L).map fl0) 0 W) => find_any hh.box hh.farg (by have := HLn.out; simp; omega) t.port t.vid t.dst t.src
        rw [find_dbl] at hFb
        obtain ⟨p0, p1⟩ := HT4.out.pv
        obtain ⟨d0, d1', d2, d3, d4, d5⟩ := HT4.out.d
        obtain ⟨s0, s1, s2, s3, s4, s5⟩ := HT4.out.s
        rcases find_cases L t.port t.vid t.dst t.src with ⟨hF, _⟩ | ⟨i, hi, hF, _, hno⟩
        · rw [hF] at hFa hFb
          have HFa := Lib.hid hFa
          have HFb := Lib.hid hFb
          have e3 : decide ((k : Int) ≤ -1) = false := decide_eq_false (by omega)
          clear hFa hFb hF
          go_wp2_with (first
            | (go_at_call 12; (first
                | (have p0 := HT5; (with_reducible refine (HFb.out _ HNb5.out).mono ?_); rintro e w6 ⟨rfl, hb⟩; have HT6 := Lib.hid (HT5.out.below hb); clear hb p0)
                | ((with_reducible refine (HFa.out).mono ?_); rintro e w5 ⟨rfl, hb⟩; have HT5 := Lib.hid (HT4.out.below hb); have HNb5 := Lib.hid (HNb.out.below hb); obtain ⟨pp, pv⟩ := HT5.out.pv; obtain ⟨dd0, dd1, dd2, dd3, dd4, dd5⟩ := HT5.out.d; obtain ⟨ss0, ss1, ss2, ss3, ss4, ss5⟩ := HT5.out.s; clear hb))))
          go_loopw [13] (fun kv wz => kv = .int .i64 0 ∧ wz = w6) (fun _ _ => 0)
          case atStart => exact ⟨rfl, rfl⟩
          case round =>
            obtain ⟨rfl, rfl⟩ := hrel
            go_wp2_with fail
            go_ret
            exact ⟨rfl, HT6.out.bel⟩
        · rw [hF] at hFa hFb
          have HFa := Lib.hid hFa
          have HFb := Lib.hid hFb
          have hik : i < k := by rw [HN.out]; exact hi
          have e3 : decide ((k : Int) ≤ (i : Int)) = false := decide_eq_false (by omega)
          have e3n : decide (k ≤ i) = false := decide_eq_false (by omega)
          have e4 : ((i : Int) != (i : Int)) = false := by simp
          have HNo := Lib.hid hno
          clear hFa hFb hF hno
          go_wp2_with (first
            | (go_at_call 12; (first
                | (have p0 := HT5; (with_reducible refine (HFb.out _ HNb5.out).mono ?_); rintro e w6 ⟨rfl, hb⟩; have HT6 := Lib.hid (HT5.out.below hb); clear hb p0)
                | ((with_reducible refine (HFa.out).mono ?_); rintro e w5 ⟨rfl, hb⟩; have HT5 := Lib.hid (HT4.out.below hb); have HNb5 := Lib.hid (HNb.out.below hb); obtain ⟨pp, pv⟩ := HT5.out.pv; obtain ⟨dd0, dd1, dd2, dd3, dd4, dd5⟩ := HT5.out.d; obtain ⟨ss0, ss1, ss2, ss3, ss4, ss5⟩ := HT5.out.s; clear hb))))
          go_loopw [13] (fun kv wz => F1Rel w t i kv wz) (fun kv _ => i - (intOf kv).toNat)
          case atStart => exact ⟨0, by omega, rfl, HT6.out⟩
          case round =>
            obtain ⟨j, hj, rfl, hTj⟩ := hrel
            rcases Nat.lt_or_ge j i with gj | gj
            · have hd2 : decide ((j : Int) < (i : Int)) = true := decide_eq_true (by omega)
              have hAj := HA.out _ hTj
              rcases hAj with ⟨e, _⟩ | ⟨h0, gg, oo, cap, e, hg, hcp, hcl⟩
              · rw [e] at hi; simp at hi
              rw [← HN.out] at e hcp
              injection e with e1 _ e3
              subst e1 e3
              have hjk : j < k := by omega
              have i1 : j + 1 ≤ c := by omega
              have hA1 := smarg_one (show SmArg wr (.slice (some ⟨gg, oo, none⟩) k c) L from .inr ⟨h0, gg, oo, c, by rw [← HN.out], hg, by rw [← HN.out]; exact hcp, hcl⟩) HN.out hjk (c - j) (by omega)
              have HNW2 := Lib.hid (newS_yes hA1 (by simp) (HAll.out.one (by rw [← HN.out]; exact hjk)))
              have HNF := Lib.hid (find_no (L.getD j default) t.port t.vid t.dst t.src (HNo.out j gj))
              have HTj := Lib.hid hTj
              clear hTj hA1 hg hcp hcl
              go_wp2_with (first
                | (go_at_call 8; (with_reducible refine (HNW2.out).mono ?_); rintro e w7 ⟨rfl, vc, hns⟩; have HNc := Lib.hid (find_any hns.box hns.farg (by simp) t.port t.vid t.dst t.src); have HT7 := Lib.hid (HTj.out.belowN hns.bel HTj.out.lt); obtain ⟨pp7, pv7⟩ := HT7.out.pv; obtain ⟨dd70, dd71, dd72, dd73, dd74, dd75⟩ := HT7.out.d; obtain ⟨ss70, ss71, ss72, ss73, ss74, ss75⟩ := HT7.out.s; clear hns)
                | (go_at_call 12; (with_reducible refine (HNc.out).mono ?_); rw [show ([L.getD j default].map fl0) = [fl0 (L.getD j default)] from rfl, HNF.out]; rintro e w8 ⟨rfl, hb⟩; have HT8 := Lib.hid (HT7.out.below hb); clear hb))
              go_roundw
              case rel => exact ⟨j + 1, by omega, by go_num, HT8.out⟩
              case measure => simp [intOf]; omega
            · obtain rfl : j = i := by omega
              have hd2 : decide ((j : Int) < (j : Int)) = false := decide_eq_false (by omega)
              have HTj := Lib.hid hTj
              clear hTj
              go_wp2_with fail
              go_ret
              exact ⟨rfl, HTj.out.bel⟩
      · have HNW := Lib.hid (newS_no hAr (by rw [← HN.out]; omega) hall)
        clear hT hAr hall
        go_wp2_with (go_at_call 8; (with_reducible refine (HNW.out).mono ?_); rintro e w1 ⟨rfl, hb⟩; have HT3 := Lib.hid (HT.out.below hb); clear hb)
        go_ret
        exact ⟨rfl, HT3.out.bel⟩

theorem sieveFirst_holds : Rows.SieveFirstSaid := sieveFirst_of (fun v0 n0 b0 x1 x2 x3 x4 y5 y6 y7 y8 y9 y10 y11 y12 y13 y14 y15 y16 x17 x18 w h _ _ _ _ _ _ _ _ _ _ _ _ _ _ _ _ _ _ => by
  obtain ⟨L, hL, hA⟩ := smarg_of h
  obtain ⟨q, c, rfl⟩ := hA.slice
  by_cases hl : 30 < L.length
  · exact first_long q _ c ⟨b0, x1, x2, x3, x4, ⟨y5, y6, y7, y8, y9, y10⟩, ⟨y11, y12, y13, y14, y15, y16⟩, x17, x18⟩ w hl
  · exact first_few q _ c L ⟨b0, x1, x2, x3, x4, ⟨y5, y6, y7, y8, y9, y10⟩, ⟨y11, y12, y13, y14, y15, y16⟩, x17, x18⟩ w hA rfl hl)

end Go.Proofs.Ytpdfgdjomlogbab
