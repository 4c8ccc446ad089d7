/- For all two ints PeerFails answers true: answers that fail in a row are as many as may be till nothing is known any more; one that is right begins anew. No condition. -/
import Derived.Test.YtnfoimkiihfalaaFPeerFails
import Derived.Test.YtnfoimkiihfalaaPeFails
namespace Go.Proofs.Ytnfoimkiihfalaa
open Go.RowKit Go.Joins

theorem ButB.keepc {b g i : Nat} {w w' : World} {x : Value} (h : ButB b w w') (hc : w.cell? ⟨g, i, none⟩ = some x) (hn : g ≠ b) : w'.cell? ⟨g, i, none⟩ = some x :=
  by
  have e := h.block g (block_lt_cell hc) hn
  rw [← hc]
  unfold World.cell?
  rw [show (⟨g, i, none⟩ : Addr).block = g from rfl, e]
def FailRel (w : World) (b cb : Nat) (L : Int) (n : Nat) (iv : Value) (wr : World) : Prop :=
  ∃ (i : Nat) (s : PS), iv = .int .i64 (i : Int) ∧ i ≤ n + 1 ∧ FS L i s ∧ Pr wr b s ∧ Below w.heap.size w wr ∧ wr.cell? ⟨cb, 5, none⟩ = some (.int .i64 L)
set_option maxRecDepth 20000 in
set_option maxHeartbeats 4000000 in
theorem fails_any (x0 x1 : Int) (w : World) : Calls Try.prog 6 #[.int .i64 x0, .int .i64 x1] w fun e w' => e = .returned (.bool true) ∧ Below w.heap.size w w' := by
  have HH := Lib.hid (fun W => head_ret W)
  have HCf := Lib.hid (fun W => conf_any W)
  have l3 := low3 x0
  have l4 := low4 x1
  obtain ⟨n, hn⟩ : ∃ n : Nat, x1 % 16 = (n : Int) := ⟨(x1 % 16).toNat, by omega⟩
  obtain ⟨L, hL⟩ : ∃ L, 1 + x0 % 8 = L := ⟨_, rfl⟩
  have hL1 : 1 ≤ L := by omega
  have hL8 : L ≤ 8 := by omega
  have hw1 : wrap64 (1 + x0 % 8) = L := by rw [hL]; unfold wrap64; omega
  have hw2 : wrap64 L = L := by unfold wrap64; omega
  have hn16 : n < 16 := by omega
  rw [hn] at l4
  have HN := Lib.hid (fun W => new_ok 5 1 1099511627776 1048576 4 L W ⟨by decide, by decide, by decide, by decide, by decide, by decide, by decide, by decide, by decide, by decide, by omega, by omega⟩)
  have HA0 := Lib.hid (fun W => at_fails 0 0 (by decide) (by decide) (by decide) W)
  have HA1 := Lib.hid (fun W => at_fails 1 655360000 (by decide) (by decide) (by decide) W)
  have HA20 := Lib.hid (fun W => at_fails 20 13107200000 (by decide) (by decide) (by decide) W)
  simp only [Int.zero_add, Int.reduceAdd] at HA0 HA1 HA20
  have HT1 : Hid (∀ W b, Pr W b (PS.new 5 1 1099511627776 1048576 4 L) → Calls Try.prog 24 #[.pointer (some ⟨b, 0, none⟩), .agg #[.int .i64 65536000, .int .i64 327680000, .int .i64 393216000, .int .i64 157286400]] W fun e w' => e = .returned (.int .i64 0) ∧ Leave b W (F1 L) w') := Lib.hid (fun W b h => talk_first h (own5_new L) 65536000 327680000 393216000 157286400 rfl (by show (0 : Int) ≤ 0; decide) (by show (0 : Int) ≤ 65535; decide) (by show (0 : Int) ≤ 0; decide) (by show (0 : Int) ≤ 4611686018427387904; decide) ⟨by decide, by decide⟩ ⟨by decide, by decide⟩)
  have HT2 : Hid (∀ W b, Pr W b (F1 L) → Calls Try.prog 24 #[.pointer (some ⟨b, 0, none⟩), .agg #[.int .i64 720896000, .int .i64 983040000, .int .i64 1048576000, .int .i64 812646400]] W fun e w' => e = .returned (.int .i64 0) ∧ Leave b W (F2 L) w') := Lib.hid (fun W b h => talk_more h (own5_after1 (own5_new L) _ _ _ _) [(393216000, 157286400)] rfl reckH (by decide) rfl (by show (0 : Int) ≤ 1; decide) (by show (1 : Int) ≤ 65535; decide) (by show (0 : Int) ≤ 0; decide) (by show (0 : Int) ≤ 4611686018427387904; decide) ⟨by decide, by decide⟩ ⟨by decide, by decide⟩ ⟨by decide, by decide⟩ ⟨by decide, by decide⟩ ⟨by decide, by decide⟩ ⟨by decide, by decide⟩ (by decide) (by decide) (by decide) ⟨by decide, by decide⟩)
  have HB2x : Hid (∀ W b, Pr W b (F2 L) → Calls Try.prog 26 #[.pointer (some ⟨b, 0, none⟩)] W fun e w' => e = .returned (.bool true) ∧ w' = W) := Lib.hid (fun W b h => able_any h)
  have HF0 := Lib.hid (fs_start L hL1)
  go_enter Try.func6, Try.ntmps6
  go_wp2_with (first
    | (go_at_call 11; (with_reducible refine (HH.out _).mono ?_); rintro e w1 ⟨rfl, hb⟩; have HB1 := Lib.hid hb; clear hb)
    | (go_at_call 17; (with_reducible refine (HCf.out _).mono ?_); rintro e w2 ⟨rfl, hb⟩; have HB2 := Lib.hid (bTr HB1.out hb); clear hb)
    | (go_at_call 12; (with_reducible refine (HN.out _).mono ?_); rintro e w3 ⟨b, rfl, hlo, hp, hb⟩; have HP3 := Lib.hid hp; have HB3 := Lib.hid (bTr (bAl HB2.out _) hb); have hlo2 : w2.heap.size < b := (by simp at hlo; omega); have HC3 : Hid (w3.cell? ⟨w2.heap.size, 5, none⟩ = some (.int .i64 L)) := Lib.hid ((hb.cell (p := ⟨w2.heap.size, 5, none⟩) (by simp)).trans (cell_of_row _ _ _ _ _ _ (heap_alloc_new w2 _))); have HLO := Lib.hid hlo2; have HLW := Lib.hid (Nat.le_trans HB2.out.size (Nat.le_of_lt hlo2)); clear hp hb hlo hlo2)
    | (go_at_call 27; (with_reducible refine (HA0.out _).mono ?_); rintro e w4 ⟨rfl, hb⟩; have HP4 := Lib.hid (HP3.out.below hb); have HB4 := Lib.hid (bTr HB3.out hb); have HC4 := Lib.hid ((hb.cell (block_lt_cell HC3.out)).trans HC3.out); clear hb)
    | (go_at_call 24; (with_reducible refine (HT1.out _ _ HP4.out).mono ?_); rintro e w5 ⟨rfl, hp, hb⟩; have HP5 := Lib.hid hp; have HB5 := Lib.hid (hb.into HB4.out HLW.out); have HC5 := Lib.hid ((hb.keepc HC4.out (Nat.ne_of_lt HLO.out))); clear hp hb)
    | (go_at_call 27; (with_reducible refine (HA1.out _).mono ?_); rintro e w6 ⟨rfl, hb⟩; have HP6 := Lib.hid (HP5.out.below hb); have HB6 := Lib.hid (bTr HB5.out hb); have HC6 := Lib.hid ((hb.cell (block_lt_cell HC5.out)).trans HC5.out); clear hb)
    | (go_at_call 24; (with_reducible refine (HT2.out _ _ HP6.out).mono ?_); rintro e w7 ⟨rfl, hp, hb⟩; have HP7 := Lib.hid hp; have HB7 := Lib.hid (hb.into HB6.out HLW.out); have HC7 := Lib.hid ((hb.keepc HC6.out (Nat.ne_of_lt HLO.out))); clear hp hb)
    | (go_at_call 26; (with_reducible refine (HB2x.out _ _ HP7.out).mono ?_); rintro e w8 ⟨rfl, rfl⟩))
  have HNN := Lib.hid hn16
  go_loopw [9] (fun iv wr => FailRel w b w2.heap.size L n iv wr) (fun iv _ => n + 1 - (intOf iv).toNat)
  case atStart => exact ⟨0, _, rfl, by omega, HF0.out, HP7.out, HB7.out, HC7.out⟩
  case round =>
    clear HP3 HP4 HP5 HP6 HP7 HB1 HB2 HB3 HB4 HB5 HB6 HB7 HC3 HC4 HC5 HC6 HC7 HT1 HT2 HB2x HA0 HA1 HN HCf HH HF0 l3 l4 hn16 hn hL hw1 hw2
    obtain ⟨i, s, rfl, hi, hs, hp, hb, hc⟩ := hrel
    have HS := Lib.hid hs
    have HP := Lib.hid hp
    have HB := Lib.hid hb
    have hn16 := HNN.out
    have hlt := hp.lt
    have hf := hs.failed
    have hq := hs.seq
    clear hs hp hb
    rcases Nat.lt_or_ge n i with g1 | g1
    · obtain rfl : i = n + 1 := by omega
      have hd : decide ((n : Int) + 1 ≤ (n : Int)) = false := decide_eq_false (by omega)
      have HT := Lib.hid (fun W (h : Pr W b s) => talk20 h HS.out hL1 (by omega))
      have hw3 : IntKind.i64.wrap ((n : Int) + 1) = (n : Int) + 1 := by rw [IntKind.wrap_i64]; omega
      have HC := Lib.hid hc
      clear hf hq hL8 hi
      go_wp2_with fail
      have h0 : (fun V => V.cell? ⟨w2.heap.size, 5, none⟩ = some (.int .i64 L)) wr.drew := HC.out
      refine wp_region_held_drew (S := fun V => V.cell? ⟨w2.heap.size, 5, none⟩ = some (.int .i64 L)) (by kernel_rfl) h0 (fun h0 => ?_)
      refine hTakeS (i := 0) (k := 74) (v := .pointer (some ⟨b, 0, none⟩)) rfl rfl (by kernel_rfl) (by kernel_rfl) (by kernel_rfl) (fun _ _ _ h => h) (yieldsIf_val (by rfl) (by intro W; go_simp)) h0 ?_
      simp only [List.setIfInBounds_toArray, List.set_cons_zero, List.set_cons_succ]
      refine hTakeS (i := 1) (k := 75) (v := .func (Fn.func 27) #[] #[]) rfl rfl (by kernel_rfl) (by kernel_rfl) (by kernel_rfl) (fun _ _ _ h => h) (yieldsIf_val (by rfl) (by intro W; go_simp)) h0 ?_
      simp only [List.setIfInBounds_toArray, List.set_cons_zero, List.set_cons_succ]
      refine hCallR (i := 2) (k := 76) (by kernel_rfl) rfl rfl (by rfl) 27 #[.int .i64 20] (by go_simp) (HA20.out _) ?_
      rintro e w8 ⟨rfl, hb⟩
      have hp8 := HP.out.below (bTr (bDr1 (bRef wr)) hb)
      have hB8 := bTr HB.out (bTr (bDr1 (bRef wr)) hb)
      have h1 : (fun V => V.cell? ⟨w2.heap.size, 5, none⟩ = some (.int .i64 L)) w8 := (hb.cell (block_lt_cell h0)).trans h0
      clear hb
      refine ⟨_, rfl, h1, ?_⟩
      simp only [List.setIfInBounds_toArray, List.set_cons_zero, List.set_cons_succ]
      refine hCallR (i := 3) (k := 77) (by kernel_rfl) rfl rfl (by rfl) 24 #[.pointer (some ⟨b, 0, none⟩), .agg #[.int .i64 13172736000, .int .i64 13434880000, .int .i64 13500416000, .int .i64 13264486400]] (by go_simp) (HT.out _ hp8) ?_
      rintro e w9 ⟨rfl, s9, hl9, hd9⟩
      have HB9 := Lib.hid (hl9.2.into hB8 HLW.out)
      have h2 : (fun V => V.cell? ⟨w2.heap.size, 5, none⟩ = some (.int .i64 L)) w9 := hl9.2.keepc h1 (Nat.ne_of_lt HLO.out)
      refine ⟨_, rfl, h2, ?_⟩
      simp only [List.setIfInBounds_toArray, List.set_cons_zero, List.set_cons_succ]
      refine hTakeS (i := 4) (k := 78) (v := .bool true) rfl rfl (by kernel_rfl) (by kernel_rfl) (by kernel_rfl) (fun _ _ _ h => h) (yieldsIf_val (by rfl) (by intro W; go_simp)) h2 ?_
      simp only [List.setIfInBounds_toArray, List.set_cons_zero, List.set_cons_succ]
      refine hTakeS (i := 5) (k := 79) (v := .bool true) rfl rfl (by kernel_rfl) (by kernel_rfl) (by kernel_rfl) (fun _ _ _ h => h) (yieldsIf_val (by rfl) (by intro W; go_simp)) h2 ?_
      simp only [List.setIfInBounds_toArray, List.set_cons_zero, List.set_cons_succ]
      refine hTakeS (i := 6) (k := 80) (v := .pointer (some ⟨b, 0, none⟩)) rfl rfl (by kernel_rfl) (by kernel_rfl) (by kernel_rfl) (fun _ _ _ h => h) (yieldsIf_val (by rfl) (by intro W; go_simp)) h2 ?_
      simp only [List.setIfInBounds_toArray, List.set_cons_zero, List.set_cons_succ]
      refine hTakeS (i := 8) (k := 82) (v := .int .i64 (n : Int)) rfl rfl (by kernel_rfl) (by kernel_rfl) (by kernel_rfl) (fun _ _ _ h => h) (yieldsIf_val (by rfl) (by intro W; go_simp)) h2 ?_
      simp only [List.setIfInBounds_toArray, List.set_cons_zero, List.set_cons_succ]
      refine hTakeS (i := 9) (k := 83) (v := .int .i64 ((n : Int) + 1)) rfl rfl (by kernel_rfl) (by kernel_rfl) (by kernel_rfl) (fun _ _ _ h => h) (yieldsIf_val (by rfl) (by intro W; go_simp)) h2 ?_
      simp only [List.setIfInBounds_toArray, List.set_cons_zero, List.set_cons_succ]
      refine hTakeS (i := 10) (k := 84) (v := .pointer (some ⟨w2.heap.size, 5, none⟩)) rfl rfl (by kernel_rfl) (by kernel_rfl) (by kernel_rfl) (fun _ _ _ h => h) (yieldsIf_val (by rfl) (by intro W; go_simp)) h2 ?_
      simp only [List.setIfInBounds_toArray, List.set_cons_zero, List.set_cons_succ]
      refine hTakeS (i := 11) (k := 85) (v := .int .i64 L) rfl rfl (by kernel_rfl) (by kernel_rfl) (by kernel_rfl) (fun _ _ _ h => h) (.inl ⟨by rfl, fun W hW => by go_simp⟩) h2 ?_
      simp only [List.setIfInBounds_toArray, List.set_cons_zero, List.set_cons_succ]
      refine hTakeS (i := 12) (k := 86) (v := .bool (decide ((n : Int) + 1 < L))) rfl rfl (by kernel_rfl) (by kernel_rfl) (by kernel_rfl) (fun _ _ _ h => h) (yieldsIf_val (by rfl) (by intro W; go_simp)) h2 ?_
      simp only [List.setIfInBounds_toArray, List.set_cons_zero, List.set_cons_succ]
      refine hCallR (i := 7) (k := 81) (by kernel_rfl) rfl rfl (by rfl) 26 #[.pointer (some ⟨b, 0, none⟩)] (by go_simp) (able_any hl9.1) ?_
      rintro e w10 ⟨rfl, rfl⟩
      refine ⟨_, rfl, h2, ?_⟩
      simp only [List.setIfInBounds_toArray, List.set_cons_zero, List.set_cons_succ]
      rw [hd9]
      refine hTakeS (i := 13) (k := 87) (v := .bool true) rfl rfl (by kernel_rfl) (by kernel_rfl) (by kernel_rfl) (fun _ _ _ h => h) (yieldsIf_val (by rfl) (by intro W; go_simp)) h2 ?_
      simp only [List.setIfInBounds_toArray, List.set_cons_zero, List.set_cons_succ]
      refine hTakeS (i := 14) (k := 88) (v := .bool true) rfl rfl (by kernel_rfl) (by kernel_rfl) (by kernel_rfl) (fun _ _ _ h => h) (yieldsIf_val (by rfl) (by intro W; go_simp)) h2 ?_
      simp only [List.setIfInBounds_toArray, List.set_cons_zero, List.set_cons_succ]
      refine hTakeS (i := 15) (k := 4) (v := .bool true) rfl rfl (by kernel_rfl) (by kernel_rfl) (by kernel_rfl) (fun _ _ _ h => h) (yieldsIf_val (by rfl) (by intro W; go_simp)) h2 ?_
      simp only [List.setIfInBounds_toArray, List.set_cons_zero, List.set_cons_succ]
      refine wpAnyH_done (by kernel_rfl) ?_ _
      go_wp2_with fail
      go_ret
      exact ⟨rfl, HB9.out⟩
    · have hd : decide ((i : Int) ≤ (n : Int)) = true := decide_eq_true (by omega)
      have HK := Lib.hid (HS.out.step hL1 (by omega))
      have HA := Lib.hid (ask_any HP.out (by omega) (by omega) (by omega) (by omega))
      have hwi : wrap64 ((i : Int) + 1) = (i : Int) + 1 := by unfold wrap64; omega
      have HI := Lib.hid hi
      have hcc : (decide ((i : Int) < L) = true ∧ s.ask.ms = M2 ∧ s.ask.delay = 13107200) ∨ (decide ((i : Int) < L) = false ∧ s.ask.ms = [] ∧ s.ask.delay = 0) := by
        by_cases hl : (i : Int) < L
        · exact .inl ⟨decide_eq_true hl, HK.out.few (by omega)⟩
        · exact .inr ⟨decide_eq_false hl, HK.out.all (by omega)⟩
      generalize s.ask = s' at *
      rcases hcc with ⟨e1, e2, e3⟩ | ⟨e1, e2, e3⟩
      all_goals
        have HAb : Hid (∀ W, Pr W b s' → Calls Try.prog 26 #[.pointer (some ⟨b, 0, none⟩)] W fun e w' => e = .returned (.bool (decide (2 ≤ s'.ms.length))) ∧ w' = W) := Lib.hid (fun W h => able_any h)
        have HDe : Hid (∀ W, Pr W b s' → Calls Try.prog 21 #[.pointer (some ⟨b, 0, none⟩)] W fun e w' => e = .returned (.int .i64 s'.delay) ∧ w' = W) := Lib.hid (fun W h => delay_any h)
        rw [e2] at HAb
        rw [e3] at HDe
        simp only [M2, List.length_cons, List.length_nil, Nat.reduceAdd, Nat.le_refl, Nat.reduceLeDiff, decide_true, decide_false] at HAb
        clear e2 e3 hf hq hL8
        go_wp2_with (first
          | (go_at_call 18; (with_reducible refine HA.out.mono ?_); rintro e w8 ⟨rfl, hp, hb⟩; have hp8 := hp.below (bAl (bRef w8) (.cells (ReqC ((s.seq + 1) % 65536) s.id s.port) 30)); have HP8 := Lib.hid hp8; have HB8 := Lib.hid ((hb.into HB.out HLW.out).trans ((bAl (bRef w8) (.cells (ReqC ((s.seq + 1) % 65536) s.id s.port) 30)).mono (hb.into HB.out HLW.out).size)); have c8 := hb.keepc hc (Nat.ne_of_lt HLO.out); have c9 : (w8.alloc (.cells (ReqC ((s.seq + 1) % 65536) s.id s.port) 30)).cell? ⟨w2.heap.size, 5, none⟩ = some (.int .i64 L) := (((bAl (bRef w8) _).cell (p := ⟨w2.heap.size, 5, none⟩) (block_lt_cell c8)).trans c8); have C9 := Lib.hid c9; clear hp hb hp8)
          | ((with_reducible refine at_storeM ?_); refine wpList_storeNM rfl _ _ rfl _ rfl (ReqC ((s.seq + 1) % 65536) s.id s.port) _ rfl rfl (by simp [ReqC, Value.oneCell']) rfl rfl ?_))
        go_quiet ((first | (go_at_call 26; exact Calls.quiet_of_same (HAb.out _ (HP8.out.below (bDr (bRef _) _)))) | (go_at_call 21; exact Calls.quiet_of_same (HDe.out _ (HP8.out.below (bDr (bRef _) _))))))
        go_wp2_with fail
        go_roundw
        case rel => exact ⟨i + 1, s', by go_num, by omega, HK.out, HP8.out.below (bDr (bRef _) _), bDr HB8.out _, C9.out⟩
        case measure => simp [intOf]; omega

theorem peerFails_holds : Rows.PeerFailsSaid := peerFails_of (fun x0 x1 w _ _ => fails_any x0 x1 w)

end Go.Proofs.Ytnfoimkiihfalaa
