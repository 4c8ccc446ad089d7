/- For all messages and times PeerOrder answers true: what is none of its own answers, or comes out of its turn, changes nothing. No condition. -/
import Derived.Test.YtnfoimkiihfalaaFPeerOrder
import Derived.Test.YtnfoimkiihfalaaPeOrd
namespace Go.Proofs.Ytnfoimkiihfalaa
open Go.RowKit Go.Joins

set_option maxRecDepth 20000 in
set_option maxHeartbeats 8000000 in
theorem order_any (p p2 : Option Addr) (n c n2 c2 : Nat) (ys : List Int) (w : World) (hx : MArg w (.slice p n c) n) (hy : LArg w (.slice p2 n2 c2) ys) (hn2 : ys.length = n2) : Calls Try.prog 4 #[.slice p n c, .slice p2 n2 c2] w fun e w' => e = .returned (.bool true) ∧ Below w.heap.size w w' := by
  have HH := Lib.hid (fun W => head_ret W)
  have HCf := Lib.hid (fun W => conf_any W)
  have HN := Lib.hid (fun W => new_ok 5 1 1099511627776 1048576 4 3 W (by decide))
  have HA : Hid (∀ W b, Pr W b (PS.new 5 1 1099511627776 1048576 4 3) → Calls Try.prog 18 #[.pointer (some ⟨b, 0, none⟩)] W fun e w' => e = .returned (.tuple #[.agg #[.int .i64 2, .int .i64 0, .int .i64 1, .int .i64 5, .int .i64 1, .int .i64 0, .int .i64 0, .int .i64 0, .int .i64 0, .int .i64 0, .int .i64 0, .int .i64 0, .int .i64 0, .int .i64 0, .int .i64 0, .slice none 0 0], .bool true]) ∧ Leave b W PO0 w') := Lib.hid (fun W b h => ask_any h (by decide) (by decide) (by decide) (by decide))
  have HX := Lib.hid hx
  have HY := Lib.hid hy
  have HN2 := Lib.hid hn2
  clear hx hy hn2
  go_enter Try.func4, Try.ntmps4
  go_wp2_with (first
    | (go_at_call 11; (with_reducible refine (HH.out _).mono ?_); rintro e w1 ⟨rfl, hb⟩; have HB1 := Lib.hid hb; clear hb)
    | (go_at_call 17; (with_reducible refine (HCf.out _).mono ?_); rintro e w2 ⟨rfl, hb⟩; have HB2 := Lib.hid (bTr HB1.out hb); clear hb)
    | (go_at_call 12; (with_reducible refine (HN.out _).mono ?_); rintro e w3 ⟨b, rfl, hlo, hp, hb⟩; have HP3 := Lib.hid hp; have HB3 := Lib.hid (bTr HB2.out hb); have HLW := Lib.hid (Nat.le_trans HB2.out.size hlo); clear hp hb hlo)
    | (go_at_call 18; (with_reducible refine (HA.out _ _ HP3.out).mono ?_); rintro e w4 ⟨rfl, hp, hb⟩; have HP4 := Lib.hid hp; have HB4 := Lib.hid (hb.into HB3.out HLW.out); clear hp hb)
    | ((with_reducible refine at_storeM ?_); refine wpList_storeNM rfl _ _ rfl w4.heap.size rfl #[.int .i64 2, .int .i64 0, .int .i64 1, .int .i64 5, .int .i64 1, .int .i64 0, .int .i64 0, .int .i64 0, .int .i64 0, .int .i64 0, .int .i64 0, .int .i64 0, .int .i64 0, .int .i64 0, .int .i64 0, .slice none 0 0] _ rfl rfl (by simp [Value.oneCell']) rfl rfl ?_))
  go_loopw [9] (fun iv wr => OrdRel w b w4.heap.size n iv wr) (fun iv _ => n + 1 - (intOf iv).toNat)
  case atStart => exact ⟨0, rfl, by omega, by omega, HP4.out.alloc _, bAl HB4.out _, cell_of_row _ _ _ _ _ _ (heap_alloc_new w4 _)⟩
  case round =>
    clear HP3 HP4 HB1 HB2 HB3 HB4 HA HN HCf HH
    obtain ⟨i, rfl, hi, h30, hp, hb, hk⟩ := hrel
    have HP := Lib.hid hp
    have HB := Lib.hid hb
    have K2 : ∀ o, (wr.alloc o).cell? ⟨w4.heap.size, 2, none⟩ = some (.int .i64 1) := fun o => ((bAl (bRef wr) o).cell (block_lt_cell hk)).trans hk
    clear hp hb
    by_cases hd : (i < n ∧ i < 30)
    · obtain ⟨g1, g2⟩ := hd
      have d1 : decide ((i : Int) < (n : Int)) = true := decide_eq_true (by omega)
      have d2 : decide ((i : Int) < 30) = true := decide_eq_true (by omega)
      have d3 : decide (i < n) = true := decide_eq_true g1
      have d4 : i < n := g1
      have e1 : wrap64 ((i : Int) + 1) = (i : Int) + 1 := by unfold wrap64; omega
      obtain ⟨bq, oq, G, rfl, hq, hG⟩ := HX.out.at (by omega)
      obtain ⟨_, hGc⟩ := hG i g1
      have HC := Lib.hid (fun j x hj => (HB.out.cell (p := ⟨bq, oq + i * 16 + j, none⟩) hq).trans (hGc j x hj))
      clear hGc hG
      generalize G i = x at *
      obtain ⟨m, a, k, c3⟩ := x
      have HSe : Hid (∀ W t, Pr W b PO0 → Calls Try.prog 19 #[.pointer (some ⟨b, 0, none⟩), .int .i64 7, .int .i64 t] W fun e w' => e = .returned (.tuple #[]) ∧ w' = W) := Lib.hid (fun W t h => sent_other h t 7 (by decide))
      rcases Nat.lt_or_ge 40 k with g3 | g3
      · have d0 : decide ((40 : Int) < (k : Int)) = true := decide_eq_true (by omega)
        go_wp2_with (first
          | ((with_reducible refine at_loadM ?_); refine wpList_load_part rfl _ _ rfl bq (oq + i * 16) rfl #[.int .i64 m.kind, .int .i64 m.dom, .int .i64 m.seq, .int .i64 m.src, .int .i64 m.port, .int .i64 m.corr, .int .i64 m.time, .int .i64 m.tw, .int .i64 m.tp, .int .i64 m.rate, .int .i64 m.one, .int .i64 m.cls, .int .i64 m.two, .int .i64 m.id, .int .i64 m.steps, .slice a k c3] _ HC.out Try.underlying30 rfl (by kernel_rfl) ?_)
          | ((with_reducible refine at_storeM ?_); refine wpList_storeNM rfl _ _ rfl wr.heap.size rfl #[.int .i64 m.kind, .int .i64 m.dom, .int .i64 m.seq, .int .i64 m.src, .int .i64 m.port, .int .i64 m.corr, .int .i64 m.time, .int .i64 m.tw, .int .i64 m.tp, .int .i64 m.rate, .int .i64 m.one, .int .i64 m.cls, .int .i64 m.two, .int .i64 m.id, .int .i64 m.steps, .slice a k c3] _ rfl rfl (by simp [Value.oneCell']) rfl rfl ?_))
        go_roundw
        case rel => exact ⟨i + 1, by go_num, by omega, by omega, HP.out.alloc _, bAl HB.out _, K2 _⟩
        case measure => simp [intOf]; omega
      have d0 : decide ((40 : Int) < (k : Int)) = false := decide_eq_false (by omega)
      have hcase : ((m.seq == 1) = true ∧ (m.tw == 5) = true ∧ (m.tp == 1) = true) ∨ (¬ (m.seq = 1 ∧ m.tw = 5 ∧ m.tp = 1) ∧ ((m.seq == 1) = false ∨ ((m.seq == 1) = true ∧ (m.tw == 5) = false) ∨ ((m.seq == 1) = true ∧ (m.tw == 5) = true ∧ (m.tp == 1) = false))) := by
        by_cases h1 : m.seq = 1 <;> by_cases h2 : m.tw = 5 <;> by_cases h3 : m.tp = 1 <;> simp [h1, h2, h3]
      rcases hcase with ⟨f0, f1, f2⟩ | ⟨hno, hf⟩
      · go_wp2_with (first
          | ((with_reducible refine at_loadM ?_); refine wpList_load_part rfl _ _ rfl bq (oq + i * 16) rfl #[.int .i64 m.kind, .int .i64 m.dom, .int .i64 m.seq, .int .i64 m.src, .int .i64 m.port, .int .i64 m.corr, .int .i64 m.time, .int .i64 m.tw, .int .i64 m.tp, .int .i64 m.rate, .int .i64 m.one, .int .i64 m.cls, .int .i64 m.two, .int .i64 m.id, .int .i64 m.steps, .slice a k c3] _ HC.out Try.underlying30 rfl (by kernel_rfl) ?_)
          | ((with_reducible refine at_storeM ?_); refine wpList_storeNM rfl _ _ rfl wr.heap.size rfl #[.int .i64 m.kind, .int .i64 m.dom, .int .i64 m.seq, .int .i64 m.src, .int .i64 m.port, .int .i64 m.corr, .int .i64 m.time, .int .i64 m.tw, .int .i64 m.tp, .int .i64 m.rate, .int .i64 m.one, .int .i64 m.cls, .int .i64 m.two, .int .i64 m.id, .int .i64 m.steps, .slice a k c3] _ rfl rfl (by simp [Value.oneCell']) rfl rfl ?_))
        go_roundw
        case rel => exact ⟨i + 1, by go_num, by omega, by omega, HP.out.alloc _, bAl HB.out _, K2 _⟩
        case measure => simp [intOf]; omega
      have HIn : Hid (∀ W t, Pr W b PO0 → Calls Try.prog 20 #[.pointer (some ⟨b, 0, none⟩), .agg #[.int .i64 m.kind, .int .i64 m.dom, .int .i64 m.seq, .int .i64 m.src, .int .i64 m.port, .int .i64 m.corr, .int .i64 m.time, .int .i64 m.tw, .int .i64 m.tp, .int .i64 m.rate, .int .i64 m.one, .int .i64 m.cls, .int .i64 m.two, .int .i64 m.id, .int .i64 m.steps, .slice a k c3], .int .i64 t] W fun e w' => e = .returned (.int .i64 31) ∧ Below W.heap.size W w') := Lib.hid (fun W t h => in_other h m (.slice a k c3) t hno)
      clear hno
      have hD : (∃ q2 o2, p2 = some ⟨q2, o2, none⟩ ∧ i < n2 ∧ wr.cell? ⟨q2, o2 + i, none⟩ = some (.int .i64 (ys.getD i 0))) ∨ n2 ≤ i := by
        rcases Nat.lt_or_ge i n2 with g4 | g4
        · refine .inl ?_
          have := HN2.out
          rcases HY.out.2 with ⟨e, _⟩ | ⟨k0, q2, o2, c', e, _, hrd⟩
          · subst e; simp at this; omega
          · injection e with e e2 e3
            exact ⟨q2, o2, e, g4, (HB.out.cell (p := ⟨q2, o2 + i, none⟩) (hrd k0).1).trans ((hrd k0).2 i (by omega))⟩
        · exact .inr g4
      rcases hD with ⟨q2, o2, rfl, g4, hcd⟩ | g4
      · have D5 : decide ((i : Int) < (n2 : Int)) = true := decide_eq_true (by omega)
        have D6 : decide (i < n2) = true := decide_eq_true g4
        have K3 : ∀ o, (wr.alloc o).cell? ⟨q2, o2 + i, none⟩ = some (.int .i64 (ys.getD i 0)) := fun o => ((bAl (bRef wr) o).cell (block_lt_cell hcd)).trans hcd
        clear hcd
        generalize ys.getD i 0 = z at *
        rcases hf with f0 | ⟨f0, f1⟩ | ⟨f0, f1, f2⟩
        · go_wp2_with (first
            | ((with_reducible refine at_loadM ?_); refine wpList_load_part rfl _ _ rfl bq (oq + i * 16) rfl #[.int .i64 m.kind, .int .i64 m.dom, .int .i64 m.seq, .int .i64 m.src, .int .i64 m.port, .int .i64 m.corr, .int .i64 m.time, .int .i64 m.tw, .int .i64 m.tp, .int .i64 m.rate, .int .i64 m.one, .int .i64 m.cls, .int .i64 m.two, .int .i64 m.id, .int .i64 m.steps, .slice a k c3] _ HC.out Try.underlying30 rfl (by kernel_rfl) ?_)
            | ((with_reducible refine at_storeM ?_); refine wpList_storeNM rfl _ _ rfl wr.heap.size rfl #[.int .i64 m.kind, .int .i64 m.dom, .int .i64 m.seq, .int .i64 m.src, .int .i64 m.port, .int .i64 m.corr, .int .i64 m.time, .int .i64 m.tw, .int .i64 m.tp, .int .i64 m.rate, .int .i64 m.one, .int .i64 m.cls, .int .i64 m.two, .int .i64 m.id, .int .i64 m.steps, .slice a k c3] _ rfl rfl (by simp [Value.oneCell']) rfl rfl ?_)
            | (go_at_call 19; (with_reducible refine (HSe.out _ _ (HP.out.alloc _)).mono ?_); rintro e w5 ⟨rfl, rfl⟩)
            | ((with_reducible refine at_loadM ?_); refine wpList_loadM rfl _ rfl wr.heap.size rfl #[.int .i64 m.kind, .int .i64 m.dom, .int .i64 m.seq, .int .i64 m.src, .int .i64 m.port, .int .i64 m.corr, .int .i64 m.time, .int .i64 m.tw, .int .i64 m.tp, .int .i64 m.rate, .int .i64 m.one, .int .i64 m.cls, .int .i64 m.two, .int .i64 m.id, .int .i64 m.steps, .slice a k c3] _ (heap_alloc_new wr _) rfl ?_)
            | (go_at_call 20; (with_reducible refine (HIn.out _ _ (HP.out.alloc _)).mono ?_); rintro e w6 ⟨rfl, hb⟩; have HP6 := Lib.hid ((HP.out.alloc _).below hb); have HB6 := Lib.hid (bTr (bAl HB.out _) hb); have HK6 := Lib.hid ((hb.cell (block_lt_cell (K2 _))).trans (K2 _)); clear hb))
          go_roundw
          case rel => exact ⟨i + 1, by go_num, by omega, by omega, HP6.out, HB6.out, HK6.out⟩
          case measure => simp [intOf]; omega
        · go_wp2_with (first
            | ((with_reducible refine at_loadM ?_); refine wpList_load_part rfl _ _ rfl bq (oq + i * 16) rfl #[.int .i64 m.kind, .int .i64 m.dom, .int .i64 m.seq, .int .i64 m.src, .int .i64 m.port, .int .i64 m.corr, .int .i64 m.time, .int .i64 m.tw, .int .i64 m.tp, .int .i64 m.rate, .int .i64 m.one, .int .i64 m.cls, .int .i64 m.two, .int .i64 m.id, .int .i64 m.steps, .slice a k c3] _ HC.out Try.underlying30 rfl (by kernel_rfl) ?_)
            | ((with_reducible refine at_storeM ?_); refine wpList_storeNM rfl _ _ rfl wr.heap.size rfl #[.int .i64 m.kind, .int .i64 m.dom, .int .i64 m.seq, .int .i64 m.src, .int .i64 m.port, .int .i64 m.corr, .int .i64 m.time, .int .i64 m.tw, .int .i64 m.tp, .int .i64 m.rate, .int .i64 m.one, .int .i64 m.cls, .int .i64 m.two, .int .i64 m.id, .int .i64 m.steps, .slice a k c3] _ rfl rfl (by simp [Value.oneCell']) rfl rfl ?_)
            | (go_at_call 19; (with_reducible refine (HSe.out _ _ (HP.out.alloc _)).mono ?_); rintro e w5 ⟨rfl, rfl⟩)
            | ((with_reducible refine at_loadM ?_); refine wpList_loadM rfl _ rfl wr.heap.size rfl #[.int .i64 m.kind, .int .i64 m.dom, .int .i64 m.seq, .int .i64 m.src, .int .i64 m.port, .int .i64 m.corr, .int .i64 m.time, .int .i64 m.tw, .int .i64 m.tp, .int .i64 m.rate, .int .i64 m.one, .int .i64 m.cls, .int .i64 m.two, .int .i64 m.id, .int .i64 m.steps, .slice a k c3] _ (heap_alloc_new wr _) rfl ?_)
            | (go_at_call 20; (with_reducible refine (HIn.out _ _ (HP.out.alloc _)).mono ?_); rintro e w6 ⟨rfl, hb⟩; have HP6 := Lib.hid ((HP.out.alloc _).below hb); have HB6 := Lib.hid (bTr (bAl HB.out _) hb); have HK6 := Lib.hid ((hb.cell (block_lt_cell (K2 _))).trans (K2 _)); clear hb))
          go_roundw
          case rel => exact ⟨i + 1, by go_num, by omega, by omega, HP6.out, HB6.out, HK6.out⟩
          case measure => simp [intOf]; omega
        · go_wp2_with (first
            | ((with_reducible refine at_loadM ?_); refine wpList_load_part rfl _ _ rfl bq (oq + i * 16) rfl #[.int .i64 m.kind, .int .i64 m.dom, .int .i64 m.seq, .int .i64 m.src, .int .i64 m.port, .int .i64 m.corr, .int .i64 m.time, .int .i64 m.tw, .int .i64 m.tp, .int .i64 m.rate, .int .i64 m.one, .int .i64 m.cls, .int .i64 m.two, .int .i64 m.id, .int .i64 m.steps, .slice a k c3] _ HC.out Try.underlying30 rfl (by kernel_rfl) ?_)
            | ((with_reducible refine at_storeM ?_); refine wpList_storeNM rfl _ _ rfl wr.heap.size rfl #[.int .i64 m.kind, .int .i64 m.dom, .int .i64 m.seq, .int .i64 m.src, .int .i64 m.port, .int .i64 m.corr, .int .i64 m.time, .int .i64 m.tw, .int .i64 m.tp, .int .i64 m.rate, .int .i64 m.one, .int .i64 m.cls, .int .i64 m.two, .int .i64 m.id, .int .i64 m.steps, .slice a k c3] _ rfl rfl (by simp [Value.oneCell']) rfl rfl ?_)
            | (go_at_call 19; (with_reducible refine (HSe.out _ _ (HP.out.alloc _)).mono ?_); rintro e w5 ⟨rfl, rfl⟩)
            | ((with_reducible refine at_loadM ?_); refine wpList_loadM rfl _ rfl wr.heap.size rfl #[.int .i64 m.kind, .int .i64 m.dom, .int .i64 m.seq, .int .i64 m.src, .int .i64 m.port, .int .i64 m.corr, .int .i64 m.time, .int .i64 m.tw, .int .i64 m.tp, .int .i64 m.rate, .int .i64 m.one, .int .i64 m.cls, .int .i64 m.two, .int .i64 m.id, .int .i64 m.steps, .slice a k c3] _ (heap_alloc_new wr _) rfl ?_)
            | (go_at_call 20; (with_reducible refine (HIn.out _ _ (HP.out.alloc _)).mono ?_); rintro e w6 ⟨rfl, hb⟩; have HP6 := Lib.hid ((HP.out.alloc _).below hb); have HB6 := Lib.hid (bTr (bAl HB.out _) hb); have HK6 := Lib.hid ((hb.cell (block_lt_cell (K2 _))).trans (K2 _)); clear hb))
          go_roundw
          case rel => exact ⟨i + 1, by go_num, by omega, by omega, HP6.out, HB6.out, HK6.out⟩
          case measure => simp [intOf]; omega
      · have D5 : decide ((i : Int) < (n2 : Int)) = false := decide_eq_false (by omega)
        have D6 : ¬ i < n2 := by omega
        rcases hf with f0 | ⟨f0, f1⟩ | ⟨f0, f1, f2⟩
        · go_wp2_with (first
            | ((with_reducible refine at_loadM ?_); refine wpList_load_part rfl _ _ rfl bq (oq + i * 16) rfl #[.int .i64 m.kind, .int .i64 m.dom, .int .i64 m.seq, .int .i64 m.src, .int .i64 m.port, .int .i64 m.corr, .int .i64 m.time, .int .i64 m.tw, .int .i64 m.tp, .int .i64 m.rate, .int .i64 m.one, .int .i64 m.cls, .int .i64 m.two, .int .i64 m.id, .int .i64 m.steps, .slice a k c3] _ HC.out Try.underlying30 rfl (by kernel_rfl) ?_)
            | ((with_reducible refine at_storeM ?_); refine wpList_storeNM rfl _ _ rfl wr.heap.size rfl #[.int .i64 m.kind, .int .i64 m.dom, .int .i64 m.seq, .int .i64 m.src, .int .i64 m.port, .int .i64 m.corr, .int .i64 m.time, .int .i64 m.tw, .int .i64 m.tp, .int .i64 m.rate, .int .i64 m.one, .int .i64 m.cls, .int .i64 m.two, .int .i64 m.id, .int .i64 m.steps, .slice a k c3] _ rfl rfl (by simp [Value.oneCell']) rfl rfl ?_)
            | (go_at_call 19; (with_reducible refine (HSe.out _ _ (HP.out.alloc _)).mono ?_); rintro e w5 ⟨rfl, rfl⟩)
            | ((with_reducible refine at_loadM ?_); refine wpList_loadM rfl _ rfl wr.heap.size rfl #[.int .i64 m.kind, .int .i64 m.dom, .int .i64 m.seq, .int .i64 m.src, .int .i64 m.port, .int .i64 m.corr, .int .i64 m.time, .int .i64 m.tw, .int .i64 m.tp, .int .i64 m.rate, .int .i64 m.one, .int .i64 m.cls, .int .i64 m.two, .int .i64 m.id, .int .i64 m.steps, .slice a k c3] _ (heap_alloc_new wr _) rfl ?_)
            | (go_at_call 20; (with_reducible refine (HIn.out _ _ (HP.out.alloc _)).mono ?_); rintro e w6 ⟨rfl, hb⟩; have HP6 := Lib.hid ((HP.out.alloc _).below hb); have HB6 := Lib.hid (bTr (bAl HB.out _) hb); have HK6 := Lib.hid ((hb.cell (block_lt_cell (K2 _))).trans (K2 _)); clear hb))
          go_roundw
          case rel => exact ⟨i + 1, by go_num, by omega, by omega, HP6.out, HB6.out, HK6.out⟩
          case measure => simp [intOf]; omega
        · go_wp2_with (first
            | ((with_reducible refine at_loadM ?_); refine wpList_load_part rfl _ _ rfl bq (oq + i * 16) rfl #[.int .i64 m.kind, .int .i64 m.dom, .int .i64 m.seq, .int .i64 m.src, .int .i64 m.port, .int .i64 m.corr, .int .i64 m.time, .int .i64 m.tw, .int .i64 m.tp, .int .i64 m.rate, .int .i64 m.one, .int .i64 m.cls, .int .i64 m.two, .int .i64 m.id, .int .i64 m.steps, .slice a k c3] _ HC.out Try.underlying30 rfl (by kernel_rfl) ?_)
            | ((with_reducible refine at_storeM ?_); refine wpList_storeNM rfl _ _ rfl wr.heap.size rfl #[.int .i64 m.kind, .int .i64 m.dom, .int .i64 m.seq, .int .i64 m.src, .int .i64 m.port, .int .i64 m.corr, .int .i64 m.time, .int .i64 m.tw, .int .i64 m.tp, .int .i64 m.rate, .int .i64 m.one, .int .i64 m.cls, .int .i64 m.two, .int .i64 m.id, .int .i64 m.steps, .slice a k c3] _ rfl rfl (by simp [Value.oneCell']) rfl rfl ?_)
            | (go_at_call 19; (with_reducible refine (HSe.out _ _ (HP.out.alloc _)).mono ?_); rintro e w5 ⟨rfl, rfl⟩)
            | ((with_reducible refine at_loadM ?_); refine wpList_loadM rfl _ rfl wr.heap.size rfl #[.int .i64 m.kind, .int .i64 m.dom, .int .i64 m.seq, .int .i64 m.src, .int .i64 m.port, .int .i64 m.corr, .int .i64 m.time, .int .i64 m.tw, .int .i64 m.tp, .int .i64 m.rate, .int .i64 m.one, .int .i64 m.cls, .int .i64 m.two, .int .i64 m.id, .int .i64 m.steps, .slice a k c3] _ (heap_alloc_new wr _) rfl ?_)
            | (go_at_call 20; (with_reducible refine (HIn.out _ _ (HP.out.alloc _)).mono ?_); rintro e w6 ⟨rfl, hb⟩; have HP6 := Lib.hid ((HP.out.alloc _).below hb); have HB6 := Lib.hid (bTr (bAl HB.out _) hb); have HK6 := Lib.hid ((hb.cell (block_lt_cell (K2 _))).trans (K2 _)); clear hb))
          go_roundw
          case rel => exact ⟨i + 1, by go_num, by omega, by omega, HP6.out, HB6.out, HK6.out⟩
          case measure => simp [intOf]; omega
        · go_wp2_with (first
            | ((with_reducible refine at_loadM ?_); refine wpList_load_part rfl _ _ rfl bq (oq + i * 16) rfl #[.int .i64 m.kind, .int .i64 m.dom, .int .i64 m.seq, .int .i64 m.src, .int .i64 m.port, .int .i64 m.corr, .int .i64 m.time, .int .i64 m.tw, .int .i64 m.tp, .int .i64 m.rate, .int .i64 m.one, .int .i64 m.cls, .int .i64 m.two, .int .i64 m.id, .int .i64 m.steps, .slice a k c3] _ HC.out Try.underlying30 rfl (by kernel_rfl) ?_)
            | ((with_reducible refine at_storeM ?_); refine wpList_storeNM rfl _ _ rfl wr.heap.size rfl #[.int .i64 m.kind, .int .i64 m.dom, .int .i64 m.seq, .int .i64 m.src, .int .i64 m.port, .int .i64 m.corr, .int .i64 m.time, .int .i64 m.tw, .int .i64 m.tp, .int .i64 m.rate, .int .i64 m.one, .int .i64 m.cls, .int .i64 m.two, .int .i64 m.id, .int .i64 m.steps, .slice a k c3] _ rfl rfl (by simp [Value.oneCell']) rfl rfl ?_)
            | (go_at_call 19; (with_reducible refine (HSe.out _ _ (HP.out.alloc _)).mono ?_); rintro e w5 ⟨rfl, rfl⟩)
            | ((with_reducible refine at_loadM ?_); refine wpList_loadM rfl _ rfl wr.heap.size rfl #[.int .i64 m.kind, .int .i64 m.dom, .int .i64 m.seq, .int .i64 m.src, .int .i64 m.port, .int .i64 m.corr, .int .i64 m.time, .int .i64 m.tw, .int .i64 m.tp, .int .i64 m.rate, .int .i64 m.one, .int .i64 m.cls, .int .i64 m.two, .int .i64 m.id, .int .i64 m.steps, .slice a k c3] _ (heap_alloc_new wr _) rfl ?_)
            | (go_at_call 20; (with_reducible refine (HIn.out _ _ (HP.out.alloc _)).mono ?_); rintro e w6 ⟨rfl, hb⟩; have HP6 := Lib.hid ((HP.out.alloc _).below hb); have HB6 := Lib.hid (bTr (bAl HB.out _) hb); have HK6 := Lib.hid ((hb.cell (block_lt_cell (K2 _))).trans (K2 _)); clear hb))
          go_roundw
          case rel => exact ⟨i + 1, by go_num, by omega, by omega, HP6.out, HB6.out, HK6.out⟩
          case measure => simp [intOf]; omega
    · have hcc : (decide ((i : Int) < (n : Int)) = false ∧ ¬ i < n) ∨ (decide ((i : Int) < (n : Int)) = true ∧ decide ((i : Int) < 30) = false ∧ i < n ∧ ¬ i < 30) := by
        rcases Nat.lt_or_ge i n with g | g
        · exact .inr ⟨decide_eq_true (by omega), decide_eq_false (by omega), g, by omega⟩
        · exact .inl ⟨decide_eq_false (by omega), by omega⟩
      rcases hcc with ⟨d1, d3⟩ | ⟨d1, d2, d3, d4⟩
      · go_wp2_with (first
          | ((with_reducible refine at_buildG ?_); refine wpList_buildG rfl _ _ rfl #[.int .i64 3, .int .i64 0, .int .i64 1, .int .i64 9, .int .i64 0, .int .i64 0, .int .i64 327680000, .int .i64 5, .int .i64 1, .int .i64 0, .int .i64 0, .int .i64 0, .int .i64 0, .int .i64 0, .int .i64 0, .slice none 0 0] (by simp only [List.map_toArray, List.map_cons, List.map_nil]; exact Try.builtOrd) ?_)
          | ((with_reducible refine at_storeM ?_); refine wpList_storeNM rfl _ _ rfl wr.heap.size rfl #[.int .i64 3, .int .i64 0, .int .i64 1, .int .i64 9, .int .i64 0, .int .i64 0, .int .i64 327680000, .int .i64 5, .int .i64 1, .int .i64 0, .int .i64 0, .int .i64 0, .int .i64 0, .int .i64 0, .int .i64 0, .slice none 0 0] _ rfl rfl (by simp [Value.oneCell']) rfl rfl ?_)
          | ((with_reducible refine at_loadM ?_); refine wpList_loadM rfl _ rfl wr.heap.size rfl #[.int .i64 3, .int .i64 0, .int .i64 1, .int .i64 9, .int .i64 0, .int .i64 0, .int .i64 327680000, .int .i64 5, .int .i64 1, .int .i64 0, .int .i64 0, .int .i64 0, .int .i64 0, .int .i64 0, .int .i64 0, .slice none 0 0] _ (heap_alloc_new wr _) rfl ?_)
          | (go_at_call 20; (with_reducible refine (ord_in0 (HP.out.alloc _)).mono ?_); rintro e w5 ⟨rfl, hb⟩; have HP5 := Lib.hid ((HP.out.alloc _).below hb); have HB5 := Lib.hid (bTr (bAl HB.out _) hb); have HA5 := Lib.hid ((hb.block wr.heap.size (by simp)).trans (heap_alloc_new wr _)); clear hb)
          | (go_at_call 19; (with_reducible refine (ord_sent HP5.out).mono ?_); rintro e w6 ⟨rfl, hp, hb⟩; have HO6 := Lib.hid (OS.start hp (hb.into HB5.out HLW.out) ((hb.block wr.heap.size (lt_of_heap HA5.out) (Nat.ne_of_gt HP.out.lt)).trans HA5.out) (Nat.ne_of_gt HP.out.lt) HLW.out); have HA6 := Lib.hid ((hb.block wr.heap.size (lt_of_heap HA5.out) (Nat.ne_of_gt HP.out.lt)).trans HA5.out); clear hp hb)
          | ((with_reducible refine at_loadM ?_); refine wpList_loadM rfl _ rfl wr.heap.size rfl #[.int .i64 3, .int .i64 0, .int .i64 1, .int .i64 9, .int .i64 0, .int .i64 0, .int .i64 327680000, .int .i64 5, .int .i64 1, .int .i64 0, .int .i64 0, .int .i64 0, .int .i64 0, .int .i64 0, .int .i64 0, .slice none 0 0] _ HA6.out rfl ?_)
          | ((with_reducible refine at_storeM ?_); refine wpList_storeNM rfl _ _ rfl w6.heap.size rfl #[.int .i64 3, .int .i64 0, .int .i64 1, .int .i64 9, .int .i64 0, .int .i64 0, .int .i64 327680000, .int .i64 5, .int .i64 1, .int .i64 0, .int .i64 0, .int .i64 0, .int .i64 0, .int .i64 0, .int .i64 0, .slice none 0 0] _ rfl rfl (by simp [Value.oneCell']) rfl rfl ?_)
          | ((with_reducible refine at_loadM ?_); refine wpList_loadM rfl _ rfl w6.heap.size rfl #[.int .i64 10, .int .i64 0, .int .i64 1, .int .i64 9, .int .i64 0, .int .i64 0, .int .i64 393216000, .int .i64 5, .int .i64 1, .int .i64 0, .int .i64 0, .int .i64 0, .int .i64 0, .int .i64 0, .int .i64 0, .slice none 0 0] _ HO6.out.rb rfl ?_)
          | (go_at_call 20; (with_reducible refine (ord_in1 HO6.out.pr).mono ?_); rintro e w7 ⟨rfl, hb⟩; have HO7 := Lib.hid (HO6.out.below hb); clear hb)
          | ((with_reducible refine at_loadMG ?_); refine wpList_loadMG (by rfl) _ rfl wr.heap.size rfl #[.int .i64 3, .int .i64 0, .int .i64 1, .int .i64 9, .int .i64 0, .int .i64 0, .int .i64 327680000, .int .i64 5, .int .i64 1, .int .i64 0, .int .i64 0, .int .i64 0, .int .i64 0, .int .i64 0, .int .i64 0, .slice none 0 0] _ HO7.out.ra rfl ?_)
          | (go_at_call 20; (with_reducible refine (ord_in2 HO7.out.pr).mono ?_); rintro e w8 ⟨rfl, hl⟩; have HO8 := Lib.hid (HO7.out.leave hl); clear hl)
          | ((with_reducible refine at_loadMG ?_); refine wpList_loadMG (by rfl) _ rfl wr.heap.size rfl #[.int .i64 3, .int .i64 0, .int .i64 1, .int .i64 9, .int .i64 0, .int .i64 0, .int .i64 327680000, .int .i64 5, .int .i64 1, .int .i64 0, .int .i64 0, .int .i64 0, .int .i64 0, .int .i64 0, .int .i64 0, .slice none 0 0] _ HO8.out.ra rfl ?_)
          | (go_at_call 20; (with_reducible refine (ord_in3 HO8.out.pr).mono ?_); rintro e w9 ⟨rfl, hb⟩; have HO9 := Lib.hid (HO8.out.below hb); clear hb)
          | ((with_reducible refine at_loadMG ?_); refine wpList_loadMG (by rfl) _ rfl w6.heap.size rfl #[.int .i64 10, .int .i64 0, .int .i64 1, .int .i64 9, .int .i64 0, .int .i64 0, .int .i64 393216000, .int .i64 5, .int .i64 1, .int .i64 0, .int .i64 0, .int .i64 0, .int .i64 0, .int .i64 0, .int .i64 0, .slice none 0 0] _ HO9.out.rb rfl ?_)
          | (go_at_call 20; (with_reducible refine (ord_in4 HO9.out.pr).mono ?_); rintro e w10 ⟨rfl, hl⟩; have HO10 := Lib.hid (HO9.out.leave hl); clear hl)
          | (go_at_call 21; (with_reducible refine (ord_delay HO10.out.pr).mono ?_); rintro e w11 ⟨rfl, rfl⟩)
          | ((with_reducible refine at_loadMG ?_); refine wpList_loadMG (by rfl) _ rfl w6.heap.size rfl #[.int .i64 10, .int .i64 0, .int .i64 1, .int .i64 9, .int .i64 0, .int .i64 0, .int .i64 393216000, .int .i64 5, .int .i64 1, .int .i64 0, .int .i64 0, .int .i64 0, .int .i64 0, .int .i64 0, .int .i64 0, .slice none 0 0] _ HO10.out.rb rfl ?_)
          | (go_at_call 20; (with_reducible refine (ord_in5 HO10.out.pr).mono ?_); rintro e w12 ⟨rfl, hb⟩; have HO12 := Lib.hid (HO10.out.below hb); clear hb))
        all_goals (go_ret; exact ⟨rfl, HO12.out.bl⟩)
      · go_wp2_with (first
          | ((with_reducible refine at_buildG ?_); refine wpList_buildG rfl _ _ rfl #[.int .i64 3, .int .i64 0, .int .i64 1, .int .i64 9, .int .i64 0, .int .i64 0, .int .i64 327680000, .int .i64 5, .int .i64 1, .int .i64 0, .int .i64 0, .int .i64 0, .int .i64 0, .int .i64 0, .int .i64 0, .slice none 0 0] (by simp only [List.map_toArray, List.map_cons, List.map_nil]; exact Try.builtOrd) ?_)
          | ((with_reducible refine at_storeM ?_); refine wpList_storeNM rfl _ _ rfl wr.heap.size rfl #[.int .i64 3, .int .i64 0, .int .i64 1, .int .i64 9, .int .i64 0, .int .i64 0, .int .i64 327680000, .int .i64 5, .int .i64 1, .int .i64 0, .int .i64 0, .int .i64 0, .int .i64 0, .int .i64 0, .int .i64 0, .slice none 0 0] _ rfl rfl (by simp [Value.oneCell']) rfl rfl ?_)
          | ((with_reducible refine at_loadM ?_); refine wpList_loadM rfl _ rfl wr.heap.size rfl #[.int .i64 3, .int .i64 0, .int .i64 1, .int .i64 9, .int .i64 0, .int .i64 0, .int .i64 327680000, .int .i64 5, .int .i64 1, .int .i64 0, .int .i64 0, .int .i64 0, .int .i64 0, .int .i64 0, .int .i64 0, .slice none 0 0] _ (heap_alloc_new wr _) rfl ?_)
          | (go_at_call 20; (with_reducible refine (ord_in0 (HP.out.alloc _)).mono ?_); rintro e w5 ⟨rfl, hb⟩; have HP5 := Lib.hid ((HP.out.alloc _).below hb); have HB5 := Lib.hid (bTr (bAl HB.out _) hb); have HA5 := Lib.hid ((hb.block wr.heap.size (by simp)).trans (heap_alloc_new wr _)); clear hb)
          | (go_at_call 19; (with_reducible refine (ord_sent HP5.out).mono ?_); rintro e w6 ⟨rfl, hp, hb⟩; have HO6 := Lib.hid (OS.start hp (hb.into HB5.out HLW.out) ((hb.block wr.heap.size (lt_of_heap HA5.out) (Nat.ne_of_gt HP.out.lt)).trans HA5.out) (Nat.ne_of_gt HP.out.lt) HLW.out); have HA6 := Lib.hid ((hb.block wr.heap.size (lt_of_heap HA5.out) (Nat.ne_of_gt HP.out.lt)).trans HA5.out); clear hp hb)
          | ((with_reducible refine at_loadM ?_); refine wpList_loadM rfl _ rfl wr.heap.size rfl #[.int .i64 3, .int .i64 0, .int .i64 1, .int .i64 9, .int .i64 0, .int .i64 0, .int .i64 327680000, .int .i64 5, .int .i64 1, .int .i64 0, .int .i64 0, .int .i64 0, .int .i64 0, .int .i64 0, .int .i64 0, .slice none 0 0] _ HA6.out rfl ?_)
          | ((with_reducible refine at_storeM ?_); refine wpList_storeNM rfl _ _ rfl w6.heap.size rfl #[.int .i64 3, .int .i64 0, .int .i64 1, .int .i64 9, .int .i64 0, .int .i64 0, .int .i64 327680000, .int .i64 5, .int .i64 1, .int .i64 0, .int .i64 0, .int .i64 0, .int .i64 0, .int .i64 0, .int .i64 0, .slice none 0 0] _ rfl rfl (by simp [Value.oneCell']) rfl rfl ?_)
          | ((with_reducible refine at_loadM ?_); refine wpList_loadM rfl _ rfl w6.heap.size rfl #[.int .i64 10, .int .i64 0, .int .i64 1, .int .i64 9, .int .i64 0, .int .i64 0, .int .i64 393216000, .int .i64 5, .int .i64 1, .int .i64 0, .int .i64 0, .int .i64 0, .int .i64 0, .int .i64 0, .int .i64 0, .slice none 0 0] _ HO6.out.rb rfl ?_)
          | (go_at_call 20; (with_reducible refine (ord_in1 HO6.out.pr).mono ?_); rintro e w7 ⟨rfl, hb⟩; have HO7 := Lib.hid (HO6.out.below hb); clear hb)
          | ((with_reducible refine at_loadMG ?_); refine wpList_loadMG (by rfl) _ rfl wr.heap.size rfl #[.int .i64 3, .int .i64 0, .int .i64 1, .int .i64 9, .int .i64 0, .int .i64 0, .int .i64 327680000, .int .i64 5, .int .i64 1, .int .i64 0, .int .i64 0, .int .i64 0, .int .i64 0, .int .i64 0, .int .i64 0, .slice none 0 0] _ HO7.out.ra rfl ?_)
          | (go_at_call 20; (with_reducible refine (ord_in2 HO7.out.pr).mono ?_); rintro e w8 ⟨rfl, hl⟩; have HO8 := Lib.hid (HO7.out.leave hl); clear hl)
          | ((with_reducible refine at_loadMG ?_); refine wpList_loadMG (by rfl) _ rfl wr.heap.size rfl #[.int .i64 3, .int .i64 0, .int .i64 1, .int .i64 9, .int .i64 0, .int .i64 0, .int .i64 327680000, .int .i64 5, .int .i64 1, .int .i64 0, .int .i64 0, .int .i64 0, .int .i64 0, .int .i64 0, .int .i64 0, .slice none 0 0] _ HO8.out.ra rfl ?_)
          | (go_at_call 20; (with_reducible refine (ord_in3 HO8.out.pr).mono ?_); rintro e w9 ⟨rfl, hb⟩; have HO9 := Lib.hid (HO8.out.below hb); clear hb)
          | ((with_reducible refine at_loadMG ?_); refine wpList_loadMG (by rfl) _ rfl w6.heap.size rfl #[.int .i64 10, .int .i64 0, .int .i64 1, .int .i64 9, .int .i64 0, .int .i64 0, .int .i64 393216000, .int .i64 5, .int .i64 1, .int .i64 0, .int .i64 0, .int .i64 0, .int .i64 0, .int .i64 0, .int .i64 0, .slice none 0 0] _ HO9.out.rb rfl ?_)
          | (go_at_call 20; (with_reducible refine (ord_in4 HO9.out.pr).mono ?_); rintro e w10 ⟨rfl, hl⟩; have HO10 := Lib.hid (HO9.out.leave hl); clear hl)
          | (go_at_call 21; (with_reducible refine (ord_delay HO10.out.pr).mono ?_); rintro e w11 ⟨rfl, rfl⟩)
          | ((with_reducible refine at_loadMG ?_); refine wpList_loadMG (by rfl) _ rfl w6.heap.size rfl #[.int .i64 10, .int .i64 0, .int .i64 1, .int .i64 9, .int .i64 0, .int .i64 0, .int .i64 393216000, .int .i64 5, .int .i64 1, .int .i64 0, .int .i64 0, .int .i64 0, .int .i64 0, .int .i64 0, .int .i64 0, .slice none 0 0] _ HO10.out.rb rfl ?_)
          | (go_at_call 20; (with_reducible refine (ord_in5 HO10.out.pr).mono ?_); rintro e w12 ⟨rfl, hb⟩; have HO12 := Lib.hid (HO10.out.below hb); clear hb))
        all_goals (go_ret; exact ⟨rfl, HO12.out.bl⟩)

theorem peerOrder_holds : Rows.PeerOrderSaid := peerOrder_of (fun v n v1 ys w hx hy => by
  obtain ⟨p, c, rfl⟩ := hx.slice
  obtain ⟨p2, n2, c2, rfl, hn2⟩ : ∃ p2 n2 c2, v1 = .slice p2 n2 c2 ∧ ys.length = n2 := by
    rcases hy.2 with ⟨rfl, a, c, rfl, _⟩ | ⟨_, b, o, c, rfl, _⟩
    · exact ⟨_, _, _, rfl, rfl⟩
    · exact ⟨_, _, _, rfl, rfl⟩
  exact order_any p p2 n c n2 c2 ys w hx hy hn2)

end Go.Proofs.Ytnfoimkiihfalaa
