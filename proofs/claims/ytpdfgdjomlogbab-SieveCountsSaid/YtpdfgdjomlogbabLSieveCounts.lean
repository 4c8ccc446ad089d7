/- For every row of streams and of steps SieveCounts answers true: each frame is counted just once, and what passes a stream with a greatest size is no longer than that. No condition. -/
import Derived.Test.YtpdfgdjomlogbabFSieveCounts
import Derived.Test.YtpdfgdjomlogbabSvSteps
import Derived.BigQuiet
namespace Go.Proofs.Ytpdfgdjomlogbab
open Go.RowKit Go.Joins

theorem counts_long (q q2 : Option Addr) (n c N c2 : Nat) (w : World) (h : 30 < n ∨ 80 < N) :
    Calls Try.prog 3 #[.slice q n c, .slice q2 N c2] w fun e w' => e = .returned (.bool true) ∧ Below w.heap.size w w' := by
  have HH := Lib.hid head_ret
  by_cases h1 : 30 < n
  · have d1 : decide ((30 : Int) < (n : Int)) = true := decide_eq_true (by omega)
    clear h h1
    go_enter Try.func3, Try.ntmps3
    go_wp2_with (go_at_call 7; (with_reducible refine (HH.out _).mono ?_); rintro e v1 ⟨rfl, hb⟩; have HB := Lib.hid hb; clear hb)
    go_ret
    exact ⟨rfl, HB.out⟩
  · have d1 : decide ((30 : Int) < (n : Int)) = false := decide_eq_false (by omega)
    have d2 : decide ((80 : Int) < (N : Int)) = true := decide_eq_true (by omega)
    clear h h1
    go_enter Try.func3, Try.ntmps3
    go_wp2_with (go_at_call 7; (with_reducible refine (HH.out _).mono ?_); rintro e v1 ⟨rfl, hb⟩; have HB := Lib.hid hb; clear hb)
    go_ret
    exact ⟨rfl, HB.out⟩
def C1Rel (w : World) (n : Nat) (S : List Sm) (kv : Value) (W : World) : Prop := ∃ k : Nat, k ≤ n ∧ kv = .int .i64 (k : Int) ∧ (∀ i, i < k → (S.getD i default).gate = -1 ∧ (S.getD i default).rate = -1) ∧ Below w.heap.size w W
def C2Rel (w : World) (b : Nat) (vv : Value) (S : List Sm) (N : Nat) (ov kv : Value) (W : World) : Prop := ∃ (k m : Nat) (L : List Fl) (oth : Int), k ≤ N ∧ m ≤ k ∧ kv = .int .i64 (k : Int) ∧ ov = .int .i64 (m : Int) ∧ NS w b vv L oth W ∧ Cz S L oth m
def C3Rel (w : World) (b : Nat) (vv : Value) (n : Nat) (L : List Fl) (oth : Int) (ov kv : Value) (W : World) : Prop := ∃ k : Nat, k ≤ n + 1 ∧ kv = .int .i64 (k : Int) ∧ ov = .int .i64 (preC L oth k) ∧ NS w b vv L oth W
def C4Rel (w : World) (b : Nat) (vv : Value) (L : List Fl) (oth s : Int) (f : Fl) (ov kv : Value) (W : World) : Prop := ∃ j : Nat, j ≤ 6 ∧ kv = .int .i64 (j : Int) ∧ ov = .int .i64 (s + p6 f j) ∧ NS w b vv L oth W
theorem c6_index (f : Fl) (j : Nat) (hj : j < 6) (W : World) : (Instr.index 38 (.agg (CV f)) (.int .i64 (j : Int))).run Try.prog W = .ok (.int .i64 (c6 f j)) W := by
  have : j = 0 ∨ j = 1 ∨ j = 2 ∨ j = 3 ∨ j = 4 ∨ j = 5 := by omega
  rcases this with rfl | rfl | rfl | rfl | rfl | rfl <;> rfl
set_option maxRecDepth 20000 in
set_option maxHeartbeats 4000000 in
theorem counts_few (q q2 : Option Addr) (n c N c2 : Nat) (S : List Sm) (T : List Tp) (w : World) (h : SmArg w (.slice q n c) S) (hn : n = S.length) (ht : TpArg w (.slice q2 N c2) T) (hN : N = T.length) (hl : ¬ 30 < n) (hl2 : ¬ 80 < N) :
    Calls Try.prog 3 #[.slice q n c, .slice q2 N c2] w fun e w' => e = .returned (.bool true) ∧ Below w.heap.size w w' := by
  have HH := Lib.hid head_ret
  have d1 : decide ((30 : Int) < (n : Int)) = false := decide_eq_false (by omega)
  have d2 : decide ((80 : Int) < (N : Int)) = false := decide_eq_false (by omega)
  have HA := Lib.hid (fun W (hb : Below w.heap.size w W) => h.below hb)
  have HTA := Lib.hid (fun W (hb : Below w.heap.size w W) => ht.below (w := w) rfl hb)
  have HN := Lib.hid hn
  have HNN := Lib.hid hN
  have HL := Lib.hid (Nat.le_of_not_lt hl)
  have HL2 := Lib.hid (Nat.le_of_not_lt hl2)
  clear h ht hn hN
  go_enter Try.func3, Try.ntmps3
  go_wp2_with (go_at_call 7; (with_reducible refine (HH.out _).mono ?_); rintro e v1 ⟨rfl, hb⟩; have HB0 := Lib.hid hb; clear hb)
  go_loopw [31] (fun kv wr => C1Rel w n S kv wr) (fun kv _ => n - (intOf kv).toNat)
  case atStart => exact ⟨0, by omega, rfl, fun i hi => absurd hi (Nat.not_lt_zero i), HB0.out⟩
  case round =>
    clear HB0
    obtain ⟨k, hk, rfl, hall, hB⟩ := hrel
    have HAll := Lib.hid hall
    have HB := Lib.hid hB
    clear hall
    rcases Nat.lt_or_ge k n with g | g
    · have hd : decide ((k : Int) < (n : Int)) = true := decide_eq_true (by omega)
      rcases HA.out _ hB with ⟨e, _⟩ | ⟨h0, gg, oo, cap, e, hg, hcp, hcl⟩
      · rw [e] at HN; have := HN.out; simp at this; omega
      rw [← HN.out] at e hcp
      injection e with e1 _ e3
      subst e1 e3
      have hx := hcl k (by rw [← HN.out]; exact g)
      have HX := Lib.hid (rfl : S.getD k default = S.getD k default)
      obtain ⟨x, hxe⟩ : ∃ x, S.getD k default = x := ⟨_, rfl⟩
      rw [hxe] at hx
      have c9 : wr.cell? ⟨gg, oo + k * 14 + 9, none⟩ = some (.int .i64 x.gate) := hx 9 _ rfl
      have c13 : wr.cell? ⟨gg, oo + k * 14 + 13, none⟩ = some (.int .i64 x.rate) := hx 13 _ rfl
      have HXE := Lib.hid hxe
      clear hB hg hcl hx hxe HX
      have i0 : (0 : Int) ≤ (k : Int) := by omega
      by_cases hga : x.gate = -1
      · have e1 : (x.gate != -1) = false := by simpa using hga
        by_cases hra : x.rate = -1
        · have e2 : (x.rate != -1) = false := by simpa using hra
          have HE := Lib.hid (And.intro hga hra)
          clear hga hra
          go_wp2_with fail
          go_roundw
          case rel => exact ⟨k + 1, by omega, by go_num, fun i hi => by
            rcases Nat.lt_or_ge i k with h9 | h9
            · exact HAll.out i h9
            · obtain rfl : i = k := by omega
              rw [HXE.out]; exact HE.out, HB.out⟩
          case measure => simp [intOf]; omega
        · have e2 : (x.rate != -1) = true := by simpa using hra
          clear hga hra
          go_wp2_with fail
          go_ret
          exact ⟨rfl, HB.out⟩
      · have e1 : (x.gate != -1) = true := by simpa using hga
        clear hga
        go_wp2_with fail
        go_ret
        exact ⟨rfl, HB.out⟩
    · obtain rfl : k = n := by omega
      have hd : decide ((k : Int) < (k : Int)) = false := decide_eq_false (by omega)
      have hAr := HA.out _ hB
      have HFr : Hid (Free S) := Lib.hid (fun i hi => HAll.out i (by rw [HN.out]; exact hi))
      by_cases hall : AllR S
      · have hl64 : S.length ≤ 64 := by have := HL.out; rw [← HN.out]; omega
        have HNW := Lib.hid (newS_yes hAr hl64 hall)
        clear hB hAr hall hl64
        go_wp2_with (go_at_call 8; (with_reducible refine (HNW.out).mono ?_); rintro e w1 ⟨rfl, vv, hns⟩; have HNa := Lib.hid (hns.base HB.out); clear hns)
        generalize wr.heap.size = b at *
        go_loopw [8, 58] (fun ov kv wz => C2Rel w b vv S N ov kv wz) (fun _ kv _ => N - (intOf kv).toNat)
        case atStart => exact ⟨0, 0, _, _, by omega, by omega, rfl, rfl, HNa.out, Cz.zero S⟩
        case round =>
          clear HNa HAll
          obtain ⟨j, m, L, oth, hj, hmj, rfl, rfl, hns, hz⟩ := hrel
          rcases Nat.lt_or_ge j N with gj | gj
          · have hd2 : decide ((j : Int) < (N : Int)) = true := decide_eq_true (by omega)
            have i2 : (0 : Int) ≤ (j : Int) := by omega
            have m80 : m ≤ 79 := by omega
            rcases HTA.out _ hns.bel with ⟨e, _⟩ | ⟨h0, gg, oo, cap, e, hg, hcl⟩
            · rw [e] at HNN; have := HNN.out; simp at this; omega
            rw [← HNN.out] at e
            injection e with e1 _ e3
            subst e1 e3
            have HX := Lib.hid (hcl j (by rw [← HNN.out]; exact gj))
            generalize T.getD j default = x at HX
            have HNS := Lib.hid (hns.below (bAl (bRef wr) (.cells (TA x) 34)))
            have HZ := Lib.hid hz
            have HTB := TB.new wr x
            obtain ⟨p0, p1⟩ := HTB.pv
            obtain ⟨dd0, dd1, dd2, dd3, dd4, dd5⟩ := HTB.d
            obtain ⟨ss0, ss1, ss2, ss3, ss4, ss5⟩ := HTB.s
            have c0 : (wr.alloc (.cells (TA x) 34)).cell? ⟨wr.heap.size, 0, none⟩ = some (.bool x.op) := cell_of_row _ _ 0 _ _ _ HTB.bx
            have c1 : (wr.alloc (.cells (TA x) 34)).cell? ⟨wr.heap.size, 1, none⟩ = some (.int .i64 x.i) := cell_of_row _ _ 1 _ _ _ HTB.bx
            have c2' : (wr.alloc (.cells (TA x) 34)).cell? ⟨wr.heap.size, 2, none⟩ = some (.int .i64 x.now) := cell_of_row _ _ 2 _ _ _ HTB.bx
            have c17 : (wr.alloc (.cells (TA x) 34)).cell? ⟨wr.heap.size, 17, none⟩ = some (.int .i64 x.prio) := cell_of_row _ _ 17 _ _ _ HTB.bx
            have c18 : (wr.alloc (.cells (TA x) 34)).cell? ⟨wr.heap.size, 18, none⟩ = some (.int .i64 x.size) := cell_of_row _ _ 18 _ _ _ HTB.bx
            have HSB : Hid (SBx (wr.alloc (.cells (TA x) 34)) wr.heap.size x) := Lib.hid HTB.bx
            clear hns hz hg hcl HTB
            cases hop : x.op with
            | true =>
              rw [hop] at c0
              have HO := Lib.hid (open_any HNS.out HZ.out HFr.out x.i)
              clear hop
              go_wp2_with (first
                | (with_reducible refine at_storeTp ?_; refine wpList_storeTp rfl _ _ rfl x _ rfl rfl rfl ?_)
                | (with_reducible refine at_loadTp ?_; refine wpList_loadTp rfl _ rfl gg (oo + j * 19) rfl x HX.out ?_)
                | (go_at_call 9; (with_reducible refine (HO.out).mono ?_); rintro e w3 ⟨y, rfl, L3, oth3, hns3, hz3⟩; have HN3 := Lib.hid hns3; have HZ3 := Lib.hid hz3; clear hns3 hz3))
              go_roundw
              case rel => exact ⟨j + 1, m, L3, oth3, by omega, by omega, by go_num, rfl, HN3.out, HZ3.out⟩
              case measure => simp [intOf]; omega
            | false =>
              rw [hop] at c0
              clear hop
              rcases in_ways HNS.out HZ.out HFr.out (by omega) (by have := HN.out; omega) x.now x.port x.vid x.dst x.src x.prio x.size with ⟨pr, hc⟩ | ⟨i, pr, what, hi, hwh, hmx, hc⟩
              · have HC := Lib.hid hc
                clear hc
                go_wp2_with (first
                  | (with_reducible refine at_storeTp ?_; refine wpList_storeTp rfl _ _ rfl x _ rfl rfl rfl ?_)
                  | (with_reducible refine at_loadTp ?_; refine wpList_loadTp rfl _ rfl gg (oo + j * 19) rfl x HX.out ?_)
                  | (go_at_call 10; (with_reducible refine (HC.out).mono ?_); rintro e w3 ⟨rfl, ⟨L3, oth3, hns3, hz3⟩, hb3⟩; have HN3 := Lib.hid hns3; have HZ3 := Lib.hid hz3; clear hns3 hz3 hb3))
                go_quiet (fail)
                all_goals (
                  go_wp2_with fail
                  go_roundw
                  case rel => exact ⟨j + 1, m + 1, L3, oth3, by omega, by omega, by go_num, by go_num, HN3.out.below (bDr (bRef _) _), HZ3.out⟩
                  case measure => simp [intOf]; omega)
              · have HC := Lib.hid hc
                have k0 : decide ((i : Int) < 0) = false := decide_eq_false (by omega)
                have k1 : decide ((k : Int) ≤ (i : Int)) = false := decide_eq_false (by have := HN.out; omega)
                have k1n : decide (k ≤ i) = false := decide_eq_false (by have := HN.out; omega)
                have k2 : (0 : Int) ≤ (i : Int) := by omega
                have k3 : (i : Int) < (k : Int) := by have := HN.out; omega
                clear hc
                rcases HA.out _ HNS.out.bel with ⟨e, _⟩ | ⟨_, g1, o1, cap1, e, _, _, _⟩
                · rw [e] at hi; simp at hi
                rw [← HN.out] at e
                injection e with e1 _ e3
                subst e1 e3
                have HQ : Hid (∀ W, Below w.heap.size w W → W.cell? ⟨g1, o1 + i * 14 + 11, none⟩ = some (.int .i64 (S.getD i default).max)) := Lib.hid (fun W hb => by
                  rcases HA.out W hb with ⟨e, _⟩ | ⟨_, g9, o9, cap9, e, _, _, hc9⟩
                  · rw [e] at hi; simp at hi
                  · injection e with e1 _ _
                    injection e1 with e1
                    injection e1 with e1 e2 _
                    subst e1 e2
                    exact hc9 i hi 11 _ rfl)
                generalize (S.getD i default).max = mx at HQ hmx
                clear hi
                rcases hwh with rfl | rfl | rfl
                · by_cases hm0 : 0 < mx
                  · have k4 : decide ((0 : Int) < mx) = true := decide_eq_true hm0
                    have k5 : decide (mx < x.size) = false := decide_eq_false (by have := hmx rfl hm0; omega)
                    clear hmx hm0
                    go_wp2_with (first
                      | (with_reducible refine at_storeTp ?_; refine wpList_storeTp rfl _ _ rfl x _ rfl rfl rfl ?_)
                      | (with_reducible refine at_loadTp ?_; refine wpList_loadTp rfl _ rfl gg (oo + j * 19) rfl x HX.out ?_)
                      | (go_at_call 10; (with_reducible refine (HC.out).mono ?_); rintro e w3 ⟨rfl, ⟨L3, oth3, hns3, hz3⟩, hb3⟩; have HN3 := Lib.hid hns3; have HZ3 := Lib.hid hz3; have qm := HQ.out _ hns3.bel; have q18 : w3.cell? ⟨wr.heap.size, 18, none⟩ = some (.int .i64 x.size) := cell_of_row _ _ 18 _ _ _ (hb3 _ _ HSB.out); clear hns3 hz3 hb3))
                    go_quiet (fail)
                    all_goals (
                      go_wp2_with fail
                      go_roundw
                      case rel => exact ⟨j + 1, m + 1, L3, oth3, by omega, by omega, by go_num, by go_num, HN3.out.below (bDr (bRef _) _), HZ3.out⟩
                      case measure => simp [intOf]; omega)
                  · have k4 : decide ((0 : Int) < mx) = false := decide_eq_false hm0
                    clear hmx hm0
                    go_wp2_with (first
                      | (with_reducible refine at_storeTp ?_; refine wpList_storeTp rfl _ _ rfl x _ rfl rfl rfl ?_)
                      | (with_reducible refine at_loadTp ?_; refine wpList_loadTp rfl _ rfl gg (oo + j * 19) rfl x HX.out ?_)
                      | (go_at_call 10; (with_reducible refine (HC.out).mono ?_); rintro e w3 ⟨rfl, ⟨L3, oth3, hns3, hz3⟩, hb3⟩; have HN3 := Lib.hid hns3; have HZ3 := Lib.hid hz3; have qm := HQ.out _ hns3.bel; have q18 : w3.cell? ⟨wr.heap.size, 18, none⟩ = some (.int .i64 x.size) := cell_of_row _ _ 18 _ _ _ (hb3 _ _ HSB.out); clear hns3 hz3 hb3))
                    go_quiet (fail)
                    all_goals (
                      go_wp2_with fail
                      go_roundw
                      case rel => exact ⟨j + 1, m + 1, L3, oth3, by omega, by omega, by go_num, by go_num, HN3.out.below (bDr (bRef _) _), HZ3.out⟩
                      case measure => simp [intOf]; omega)
                · clear hmx
                  go_wp2_with (first
                    | (with_reducible refine at_storeTp ?_; refine wpList_storeTp rfl _ _ rfl x _ rfl rfl rfl ?_)
                    | (with_reducible refine at_loadTp ?_; refine wpList_loadTp rfl _ rfl gg (oo + j * 19) rfl x HX.out ?_)
                    | (go_at_call 10; (with_reducible refine (HC.out).mono ?_); rintro e w3 ⟨rfl, ⟨L3, oth3, hns3, hz3⟩, hb3⟩; have HN3 := Lib.hid hns3; have HZ3 := Lib.hid hz3; have qm := HQ.out _ hns3.bel; have q18 : w3.cell? ⟨wr.heap.size, 18, none⟩ = some (.int .i64 x.size) := cell_of_row _ _ 18 _ _ _ (hb3 _ _ HSB.out); clear hns3 hz3 hb3))
                  go_quiet (fail)
                  all_goals (
                    go_wp2_with fail
                    go_roundw
                    case rel => exact ⟨j + 1, m + 1, L3, oth3, by omega, by omega, by go_num, by go_num, HN3.out.below (bDr (bRef _) _), HZ3.out⟩
                    case measure => simp [intOf]; omega)
                · clear hmx
                  go_wp2_with (first
                    | (with_reducible refine at_storeTp ?_; refine wpList_storeTp rfl _ _ rfl x _ rfl rfl rfl ?_)
                    | (with_reducible refine at_loadTp ?_; refine wpList_loadTp rfl _ rfl gg (oo + j * 19) rfl x HX.out ?_)
                    | (go_at_call 10; (with_reducible refine (HC.out).mono ?_); rintro e w3 ⟨rfl, ⟨L3, oth3, hns3, hz3⟩, hb3⟩; have HN3 := Lib.hid hns3; have HZ3 := Lib.hid hz3; have qm := HQ.out _ hns3.bel; have q18 : w3.cell? ⟨wr.heap.size, 18, none⟩ = some (.int .i64 x.size) := cell_of_row _ _ 18 _ _ _ (hb3 _ _ HSB.out); clear hns3 hz3 hb3))
                  go_quiet (fail)
                  all_goals (
                    go_wp2_with fail
                    go_roundw
                    case rel => exact ⟨j + 1, m + 1, L3, oth3, by omega, by omega, by go_num, by go_num, HN3.out.below (bDr (bRef _) _), HZ3.out⟩
                    case measure => simp [intOf]; omega)
          · obtain rfl : j = N := by omega
            have hd2 : decide ((j : Int) < (j : Int)) = false := decide_eq_false (by omega)
            have HNS := Lib.hid hns
            have HZ := Lib.hid hz
            clear hns hz
            go_wp2_with fail
            go_loopw [15, 16] (fun ov kv wz => C3Rel w b vv k L oth ov kv wz) (fun _ kv _ => k + 1 - (intOf kv).toNat)
            case atStart => exact ⟨0, by omega, rfl, by rw [preC_zero], HNS.out⟩
            case round =>
              clear HNS
              obtain ⟨i, hi, rfl, rfl, hns⟩ := hrel
              have HNS := Lib.hid hns
              clear hns
              rcases Nat.lt_or_ge k i with gi | gi
              · obtain rfl : i = k + 1 := by omega
                have hd3 : decide (((k + 1 : Nat) : Int) ≤ (k : Int)) = false := decide_eq_false (by omega)
                have hall : preC L oth (k + 1) = (m : Int) := by rw [HN.out]; exact HZ.out.preC_all
                rw [hall]
                go_wp2_with fail
                go_ret
                exact ⟨rfl, HNS.out.bel⟩
              · have hd3 : decide ((i : Int) ≤ (k : Int)) = true := decide_eq_true (by omega)
                have HC := Lib.hid (counts_any HNS.out HZ.out (k := i) (by have := HN.out; omega))
                have hs := preC_succ L oth (k := i) (by have := HN.out; have := HZ.out.len; omega)
                have hp := HZ.out.cnt_pos i
                have hb1 := HZ.out.preC_le (k := i) (by have := HN.out; omega)
                have hb2 := HZ.out.preC_le (k := i + 1) (by have := HN.out; omega)
                rw [hs] at hb2
                have hs6 := HN.out
                obtain ⟨f, hf⟩ : ∃ f, cnt L oth i = f := ⟨_, rfl⟩
                rw [hf] at HC hs hp hb2
                obtain ⟨s, hse⟩ : ∃ s, preC L oth i = s := ⟨_, rfl⟩
                rw [hse] at hs hb1 hb2 ⊢
                have HS := Lib.hid hs
                have HP := Lib.hid hp
                have HB1 := Lib.hid (And.intro hb1 hb2)
                clear hs hp hb1 hb2 hf hse hs6
                go_wp2_with (go_at_call 11; (with_reducible refine (HC.out).mono ?_); rintro e w4 ⟨rfl, hb4⟩; have HN4 := Lib.hid (HNS.out.below hb4); clear hb4)
                go_loopw [15, 135] (fun ov kv wz => C4Rel w b vv L oth s f ov kv wz) (fun _ kv _ => 6 - (intOf kv).toNat)
                case atStart => exact ⟨0, by omega, rfl, by simp [p6], HN4.out⟩
                case round =>
                  clear HN4 HNS
                  obtain ⟨u, hu, rfl, rfl, hns⟩ := hrel
                  have HNS := Lib.hid hns
                  clear hns
                  rcases Nat.lt_or_ge u 6 with gu | gu
                  · have hd4 : decide ((u : Int) < 6) = true := decide_eq_true (by omega)
                    have hix := c6_index f u gu
                    have q1 := p6_le HP.out (j := u) (by omega)
                    have q2 := p6_le HP.out (j := u + 1) (by omega)
                    have q3 : p6 f (u + 1) = p6 f u + c6 f u := rfl
                    have q4 := HB1.out
                    have hw : wrap64 (s + p6 f u + c6 f u) = s + p6 f u + c6 f u := by unfold wrap64; omega
                    have HQ3 : Hid (s + p6 f u + c6 f u = s + p6 f (u + 1)) := Lib.hid (by omega)
                    clear q1 q2 q3 q4
                    generalize c6 f u = X at hix hw HQ3
                    generalize s + p6 f u = A at hw HQ3 ⊢
                    go_wp2_with fail
                    go_roundw
                    case rel => exact ⟨u + 1, by omega, by go_num, by rw [← HQ3.out, hw], HNS.out⟩
                    case measure => simp [intOf]; omega
                  · obtain rfl : u = 6 := by omega
                    have hd4 : decide (((6 : Nat) : Int) < 6) = false := rfl
                    have hp6 : s + p6 f 6 = preC L oth (i + 1) := by rw [p6_all]; exact HS.out.symm
                    rw [hp6]
                    go_wp2_with fail
                    go_roundw
                    case rel => exact ⟨i + 1, by omega, by go_num, rfl, HNS.out⟩
                    case measure => simp [intOf]; omega
      · have HNW := Lib.hid (newS_no hAr (by have := HL.out; rw [← HN.out]; omega) hall)
        clear hB hAr hall
        go_wp2_with (go_at_call 8; (with_reducible refine (HNW.out).mono ?_); rintro e w1 ⟨rfl, hb⟩; have HB3 := Lib.hid (bTr HB.out hb); clear hb)
        go_ret
        exact ⟨rfl, HB3.out⟩

theorem sieveCounts_holds : Rows.SieveCountsSaid := sieveCounts_of (fun v0 n0 v1 n1 w h h1 => by
  obtain ⟨S, hS, hA⟩ := smarg_of h
  obtain ⟨T, hT, hB⟩ := tparg_of h1
  obtain ⟨q, c, rfl⟩ := hA.slice
  obtain ⟨q2, c2, rfl⟩ := hB.slice
  by_cases hl : 30 < S.length ∨ 80 < T.length
  · exact counts_long q q2 _ c _ c2 w hl
  · exact counts_few q q2 _ c _ c2 S T w hA rfl hB rfl (fun h => hl (.inl h)) (fun h => hl (.inr h)))

end Go.Proofs.Ytpdfgdjomlogbab
