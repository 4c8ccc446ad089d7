/- For every setup, every message and all times PeerAnswers answers true: a message is answered just if it is a question that is right, with its names turned round. No condition. -/
import Derived.Test.YtnfoimkiihfalaaFPeerAnswers
import Derived.Test.YtnfoimkiihfalaaPeHead
import Derived.Test.YtnfoimkiihfalaaPeAns
namespace Go.Proofs.Ytnfoimkiihfalaa
open Go.RowKit Go.Joins

set_option maxRecDepth 20000 in
set_option maxHeartbeats 2000000 in
theorem ans_bad (z0 z1 z2 z3 z4 z5 x y : Int) (m : Mg) (p : Option Addr) (n c : Nat) (w : World) (ho : ¬ OkC z0 z1 z2 z3 z4 z5) : Calls Try.prog 3 #[.agg #[.int .i64 z0, .int .i64 z1, .int .i64 z2, .int .i64 z3, .int .i64 z4, .int .i64 z5], .agg (MC m (.slice p n c)), .int .i64 x, .int .i64 y] w fun e w' => e = .returned (.bool true) ∧ Below w.heap.size w w' := by
  have HH := Lib.hid (fun W => head_ret W)
  have HT := Lib.hid (two_new w (.cells #[.int .i64 z0, .int .i64 z1, .int .i64 z2, .int .i64 z3, .int .i64 z4, .int .i64 z5] 24) (.cells (MC m (.slice p n c)) 30))
  have HB0 := Lib.hid (bAl (bAl (bRef w) (.cells #[.int .i64 z0, .int .i64 z1, .int .i64 z2, .int .i64 z3, .int .i64 z4, .int .i64 z5] 24)) (.cells (MC m (.slice p n c)) 30))
  have HN := Lib.hid (fun W => new_no z0 z1 z2 z3 z4 z5 W ho)
  have HC := conf_chk z0 z1 z2 z3 z4 z5
  rw [if_neg ho] at HC
  replace HC := Lib.hid HC
  clear ho
  unfold MC
  go_enter Try.func3, Try.ntmps3
  go_wp2_with (first
    | (go_at_call 11; (with_reducible refine (HH.out _).mono ?_); rintro e w1 ⟨rfl, hb⟩; have HB1 := Lib.hid (bTr HB0.out hb); have hc1 := (hb.block _ (lt_of_heap HT.out.1)).trans HT.out.1; have hm1 := (hb.block _ (lt_of_heap HT.out.2)).trans HT.out.2; have k0 : w1.cell? ⟨w.heap.size, 0, none⟩ = some (.int .i64 z0) := cell_of_row _ _ _ _ _ _ hc1; have k1 : w1.cell? ⟨w.heap.size, 1, none⟩ = some (.int .i64 z1) := cell_of_row _ _ _ _ _ _ hc1; have k2 : w1.cell? ⟨w.heap.size, 2, none⟩ = some (.int .i64 z2) := cell_of_row _ _ _ _ _ _ hc1; have k3 : w1.cell? ⟨w.heap.size, 3, none⟩ = some (.int .i64 z3) := cell_of_row _ _ _ _ _ _ hc1; have k4 : w1.cell? ⟨w.heap.size, 4, none⟩ = some (.int .i64 z4) := cell_of_row _ _ _ _ _ _ hc1; have k5 : w1.cell? ⟨w.heap.size, 5, none⟩ = some (.int .i64 z5) := cell_of_row _ _ _ _ _ _ hc1; have HR1 := Lib.hid (And.intro hc1 hm1); clear hb hc1 hm1)
    | (go_at_call 12; (with_reducible refine (HN.out _).mono ?_); rintro e w2 ⟨rfl, hb⟩; have HB2 := Lib.hid (bTr HB1.out hb); have hc2 := (hb.block _ (lt_of_heap HR1.out.1)).trans HR1.out.1; have hm2 := (hb.block _ (lt_of_heap HR1.out.2)).trans HR1.out.2; have q0 : w2.cell? ⟨w.heap.size, 0, none⟩ = some (.int .i64 z0) := cell_of_row _ _ _ _ _ _ hc2; have q1 : w2.cell? ⟨w.heap.size, 1, none⟩ = some (.int .i64 z1) := cell_of_row _ _ _ _ _ _ hc2; have q2 : w2.cell? ⟨w.heap.size, 2, none⟩ = some (.int .i64 z2) := cell_of_row _ _ _ _ _ _ hc2; have q3 : w2.cell? ⟨w.heap.size, 3, none⟩ = some (.int .i64 z3) := cell_of_row _ _ _ _ _ _ hc2; have q4 : w2.cell? ⟨w.heap.size, 4, none⟩ = some (.int .i64 z4) := cell_of_row _ _ _ _ _ _ hc2; have q5 : w2.cell? ⟨w.heap.size, 5, none⟩ = some (.int .i64 z5) := cell_of_row _ _ _ _ _ _ hc2; have u15 : w2.cell? ⟨w.heap.size + 1, 15, none⟩ = some (.slice p n c) := cell_of_row _ _ _ _ _ _ hm2; have HR2 := Lib.hid (And.intro hc2 hm2); clear hb hc2 hm2)
    | (go_at_call 13; (with_reducible refine (HC.out _).mono ?_); rintro e w3 ⟨rfl, hb⟩; have HB3 := Lib.hid (bTr HB2.out hb); clear hb))
  go_ret
  exact ⟨rfl, HB3.out⟩
set_option maxRecDepth 20000 in
set_option maxHeartbeats 2000000 in
theorem ans_long (z0 z1 z2 z3 z4 z5 x y : Int) (m : Mg) (p : Option Addr) (n c : Nat) (w : World) (ho : OkC z0 z1 z2 z3 z4 z5) (hn : 40 < n) : Calls Try.prog 3 #[.agg #[.int .i64 z0, .int .i64 z1, .int .i64 z2, .int .i64 z3, .int .i64 z4, .int .i64 z5], .agg (MC m (.slice p n c)), .int .i64 x, .int .i64 y] w fun e w' => e = .returned (.bool true) ∧ Below w.heap.size w w' := by
  have HH := Lib.hid (fun W => head_ret W)
  have HT := Lib.hid (two_new w (.cells #[.int .i64 z0, .int .i64 z1, .int .i64 z2, .int .i64 z3, .int .i64 z4, .int .i64 z5] 24) (.cells (MC m (.slice p n c)) 30))
  have HB0 := Lib.hid (bAl (bAl (bRef w) (.cells #[.int .i64 z0, .int .i64 z1, .int .i64 z2, .int .i64 z3, .int .i64 z4, .int .i64 z5] 24)) (.cells (MC m (.slice p n c)) 30))
  have HN := Lib.hid (fun W => new_ok z0 z1 z2 z3 z4 z5 W ho)
  have HC := conf_chk z0 z1 z2 z3 z4 z5
  rw [if_pos ho] at HC
  replace HC := Lib.hid HC
  have d0 : decide ((40 : Int) < (n : Int)) = true := decide_eq_true (by omega)
  clear ho hn
  unfold MC
  go_enter Try.func3, Try.ntmps3
  go_wp2_with (first
    | (go_at_call 11; (with_reducible refine (HH.out _).mono ?_); rintro e w1 ⟨rfl, hb⟩; have HB1 := Lib.hid (bTr HB0.out hb); have hc1 := (hb.block _ (lt_of_heap HT.out.1)).trans HT.out.1; have hm1 := (hb.block _ (lt_of_heap HT.out.2)).trans HT.out.2; have k0 : w1.cell? ⟨w.heap.size, 0, none⟩ = some (.int .i64 z0) := cell_of_row _ _ _ _ _ _ hc1; have k1 : w1.cell? ⟨w.heap.size, 1, none⟩ = some (.int .i64 z1) := cell_of_row _ _ _ _ _ _ hc1; have k2 : w1.cell? ⟨w.heap.size, 2, none⟩ = some (.int .i64 z2) := cell_of_row _ _ _ _ _ _ hc1; have k3 : w1.cell? ⟨w.heap.size, 3, none⟩ = some (.int .i64 z3) := cell_of_row _ _ _ _ _ _ hc1; have k4 : w1.cell? ⟨w.heap.size, 4, none⟩ = some (.int .i64 z4) := cell_of_row _ _ _ _ _ _ hc1; have k5 : w1.cell? ⟨w.heap.size, 5, none⟩ = some (.int .i64 z5) := cell_of_row _ _ _ _ _ _ hc1; have HR1 := Lib.hid (And.intro hc1 hm1); clear hb hc1 hm1)
    | (go_at_call 12; (with_reducible refine (HN.out _).mono ?_); rintro e w2 ⟨b, rfl, hlo, hp, hb⟩; have HB2 := Lib.hid (bTr HB1.out hb); have hc2 := (hb.block _ (lt_of_heap HR1.out.1)).trans HR1.out.1; have hm2 := (hb.block _ (lt_of_heap HR1.out.2)).trans HR1.out.2; have q0 : w2.cell? ⟨w.heap.size, 0, none⟩ = some (.int .i64 z0) := cell_of_row _ _ _ _ _ _ hc2; have q1 : w2.cell? ⟨w.heap.size, 1, none⟩ = some (.int .i64 z1) := cell_of_row _ _ _ _ _ _ hc2; have q2 : w2.cell? ⟨w.heap.size, 2, none⟩ = some (.int .i64 z2) := cell_of_row _ _ _ _ _ _ hc2; have q3 : w2.cell? ⟨w.heap.size, 3, none⟩ = some (.int .i64 z3) := cell_of_row _ _ _ _ _ _ hc2; have q4 : w2.cell? ⟨w.heap.size, 4, none⟩ = some (.int .i64 z4) := cell_of_row _ _ _ _ _ _ hc2; have q5 : w2.cell? ⟨w.heap.size, 5, none⟩ = some (.int .i64 z5) := cell_of_row _ _ _ _ _ _ hc2; have u15 : w2.cell? ⟨w.heap.size + 1, 15, none⟩ = some (.slice p n c) := cell_of_row _ _ _ _ _ _ hm2; have HR2 := Lib.hid (And.intro hc2 hm2); clear hlo hp; clear hb hc2 hm2)
    | (go_at_call 13; (with_reducible refine (HC.out _).mono ?_); rintro e w3 ⟨rfl, hb⟩; have HB3 := Lib.hid (bTr HB2.out hb); clear hb))
  go_ret
  exact ⟨rfl, HB3.out⟩
set_option maxRecDepth 20000 in
set_option maxHeartbeats 4000000 in
theorem ans_kind (z0 z1 z2 z3 z4 z5 x y : Int) (m : Mg) (p : Option Addr) (n c : Nat) (w : World) (ho : OkC z0 z1 z2 z3 z4 z5) (hn : n ≤ 40) (hk : m.kind ≠ 2) : Calls Try.prog 3 #[.agg #[.int .i64 z0, .int .i64 z1, .int .i64 z2, .int .i64 z3, .int .i64 z4, .int .i64 z5], .agg (MC m (.slice p n c)), .int .i64 x, .int .i64 y] w fun e w' => e = .returned (.bool true) ∧ Below w.heap.size w w' := by
  have HH := Lib.hid (fun W => head_ret W)
  have HT := Lib.hid (two_new w (.cells #[.int .i64 z0, .int .i64 z1, .int .i64 z2, .int .i64 z3, .int .i64 z4, .int .i64 z5] 24) (.cells (MC m (.slice p n c)) 30))
  have HB0 := Lib.hid (bAl (bAl (bRef w) (.cells #[.int .i64 z0, .int .i64 z1, .int .i64 z2, .int .i64 z3, .int .i64 z4, .int .i64 z5] 24)) (.cells (MC m (.slice p n c)) 30))
  have HN := Lib.hid (fun W => new_ok z0 z1 z2 z3 z4 z5 W ho)
  have d0 : decide ((40 : Int) < (n : Int)) = false := decide_eq_false (by omega)
  have HA := Lib.hid (fun W (_ : Below w.heap.size w W) (b : Nat) => answer_no b m (.slice p n c) x W (rgt_kind W m _ hk))
  have d1 : (m.kind == 2) = false := by rw [beq_eq_false_iff_ne]; exact hk
  clear ho hn hk
  unfold MC
  go_enter Try.func3, Try.ntmps3
  go_wp2_with (first
    | (go_at_call 11; (with_reducible refine (HH.out _).mono ?_); rintro e w1 ⟨rfl, hb⟩; have HB1 := Lib.hid (bTr HB0.out hb); have hc1 := (hb.block _ (lt_of_heap HT.out.1)).trans HT.out.1; have hm1 := (hb.block _ (lt_of_heap HT.out.2)).trans HT.out.2; have k0 : w1.cell? ⟨w.heap.size, 0, none⟩ = some (.int .i64 z0) := cell_of_row _ _ _ _ _ _ hc1; have k1 : w1.cell? ⟨w.heap.size, 1, none⟩ = some (.int .i64 z1) := cell_of_row _ _ _ _ _ _ hc1; have k2 : w1.cell? ⟨w.heap.size, 2, none⟩ = some (.int .i64 z2) := cell_of_row _ _ _ _ _ _ hc1; have k3 : w1.cell? ⟨w.heap.size, 3, none⟩ = some (.int .i64 z3) := cell_of_row _ _ _ _ _ _ hc1; have k4 : w1.cell? ⟨w.heap.size, 4, none⟩ = some (.int .i64 z4) := cell_of_row _ _ _ _ _ _ hc1; have k5 : w1.cell? ⟨w.heap.size, 5, none⟩ = some (.int .i64 z5) := cell_of_row _ _ _ _ _ _ hc1; have HR1 := Lib.hid (And.intro hc1 hm1); clear hb hc1 hm1)
    | (go_at_call 12; (with_reducible refine (HN.out _).mono ?_); rintro e w2 ⟨b, rfl, hlo, hp, hb⟩; have HB2 := Lib.hid (bTr HB1.out hb); have hc2 := (hb.block _ (lt_of_heap HR1.out.1)).trans HR1.out.1; have hm2 := (hb.block _ (lt_of_heap HR1.out.2)).trans HR1.out.2; have q0 : w2.cell? ⟨w.heap.size, 0, none⟩ = some (.int .i64 z0) := cell_of_row _ _ _ _ _ _ hc2; have q1 : w2.cell? ⟨w.heap.size, 1, none⟩ = some (.int .i64 z1) := cell_of_row _ _ _ _ _ _ hc2; have q2 : w2.cell? ⟨w.heap.size, 2, none⟩ = some (.int .i64 z2) := cell_of_row _ _ _ _ _ _ hc2; have q3 : w2.cell? ⟨w.heap.size, 3, none⟩ = some (.int .i64 z3) := cell_of_row _ _ _ _ _ _ hc2; have q4 : w2.cell? ⟨w.heap.size, 4, none⟩ = some (.int .i64 z4) := cell_of_row _ _ _ _ _ _ hc2; have q5 : w2.cell? ⟨w.heap.size, 5, none⟩ = some (.int .i64 z5) := cell_of_row _ _ _ _ _ _ hc2; have u15 : w2.cell? ⟨w.heap.size + 1, 15, none⟩ = some (.slice p n c) := cell_of_row _ _ _ _ _ _ hm2; have HR2 := Lib.hid (And.intro hc2 hm2); clear hlo hp; clear hb hc2 hm2)
    | ((with_reducible refine at_loadM ?_); refine wpList_loadM rfl _ rfl (w.heap.size + 1) rfl (MC m (.slice p n c)) _ HR2.out.2 rfl ?_)
    | (go_at_call 14; (with_reducible refine (HA.out _ HB2.out _).mono ?_); rintro e w3 ⟨rfl, hb⟩; have HB3 := Lib.hid (fun o => bAl (bTr HB2.out hb) o); have hm3 := (hb.block _ (lt_of_heap HR2.out.2)).trans HR2.out.2; have HM3 := Lib.hid hm3; have t0 : ∀ o, (w3.alloc o).cell? ⟨w.heap.size + 1, 0, none⟩ = some (.int .i64 m.kind) := (fun o => cell_of_row _ _ _ _ _ _ ((heap_alloc_old w3 o (lt_of_heap hm3)).trans hm3)); clear hb hm3)
    | ((with_reducible refine at_storeM ?_); refine wpList_storeNM rfl _ _ rfl _ rfl #[.int .i64 0, .int .i64 0, .int .i64 0, .int .i64 0, .int .i64 0, .int .i64 0, .int .i64 0, .int .i64 0, .int .i64 0, .int .i64 0, .int .i64 0, .int .i64 0, .int .i64 0, .int .i64 0, .int .i64 0, .slice none 0 0] _ rfl rfl (by simp [Value.oneCell']) rfl rfl ?_))
  go_ret
  exact ⟨rfl, HB3.out _⟩
set_option maxRecDepth 20000 in
set_option maxHeartbeats 4000000 in
theorem ans_wrong (z0 z1 z2 z3 z4 z5 x y : Int) (m : Mg) (p : Option Addr) (n c : Nat) (w : World) (ho : OkC z0 z1 z2 z3 z4 z5) (hn : n ≤ 40) (hk : m.kind = 2) (X : Nat) (hX : X ≠ 0) (hC : ChkTo w m (.slice p n c) X) : Calls Try.prog 3 #[.agg #[.int .i64 z0, .int .i64 z1, .int .i64 z2, .int .i64 z3, .int .i64 z4, .int .i64 z5], .agg (MC m (.slice p n c)), .int .i64 x, .int .i64 y] w fun e w' => e = .returned (.bool true) ∧ Below w.heap.size w w' := by
  have HH := Lib.hid (fun W => head_ret W)
  have HT := Lib.hid (two_new w (.cells #[.int .i64 z0, .int .i64 z1, .int .i64 z2, .int .i64 z3, .int .i64 z4, .int .i64 z5] 24) (.cells (MC m (.slice p n c)) 30))
  have HB0 := Lib.hid (bAl (bAl (bRef w) (.cells #[.int .i64 z0, .int .i64 z1, .int .i64 z2, .int .i64 z3, .int .i64 z4, .int .i64 z5] 24)) (.cells (MC m (.slice p n c)) 30))
  have HN := Lib.hid (fun W => new_ok z0 z1 z2 z3 z4 z5 W ho)
  have d0 : decide ((40 : Int) < (n : Int)) = false := decide_eq_false (by omega)
  have HA := Lib.hid (fun W (hW : Below w.heap.size w W) (b : Nat) => answer_no b m (.slice p n c) x W (by have key := rgt_chk hk (hC.mono hW); rw [decide_eq_false hX] at key; exact key))
  have d1 : (m.kind == 2) = true := by rw [beq_iff_eq]; exact hk
  have d2 : ((X : Int) == 0) = false := by rw [beq_eq_false_iff_ne]; omega
  have HCm := Lib.hid hC
  clear ho hn hk hX hC
  unfold MC
  go_enter Try.func3, Try.ntmps3
  go_wp2_with (first
    | (go_at_call 11; (with_reducible refine (HH.out _).mono ?_); rintro e w1 ⟨rfl, hb⟩; have HB1 := Lib.hid (bTr HB0.out hb); have hc1 := (hb.block _ (lt_of_heap HT.out.1)).trans HT.out.1; have hm1 := (hb.block _ (lt_of_heap HT.out.2)).trans HT.out.2; have k0 : w1.cell? ⟨w.heap.size, 0, none⟩ = some (.int .i64 z0) := cell_of_row _ _ _ _ _ _ hc1; have k1 : w1.cell? ⟨w.heap.size, 1, none⟩ = some (.int .i64 z1) := cell_of_row _ _ _ _ _ _ hc1; have k2 : w1.cell? ⟨w.heap.size, 2, none⟩ = some (.int .i64 z2) := cell_of_row _ _ _ _ _ _ hc1; have k3 : w1.cell? ⟨w.heap.size, 3, none⟩ = some (.int .i64 z3) := cell_of_row _ _ _ _ _ _ hc1; have k4 : w1.cell? ⟨w.heap.size, 4, none⟩ = some (.int .i64 z4) := cell_of_row _ _ _ _ _ _ hc1; have k5 : w1.cell? ⟨w.heap.size, 5, none⟩ = some (.int .i64 z5) := cell_of_row _ _ _ _ _ _ hc1; have HR1 := Lib.hid (And.intro hc1 hm1); clear hb hc1 hm1)
    | (go_at_call 12; (with_reducible refine (HN.out _).mono ?_); rintro e w2 ⟨b, rfl, hlo, hp, hb⟩; have HB2 := Lib.hid (bTr HB1.out hb); have hc2 := (hb.block _ (lt_of_heap HR1.out.1)).trans HR1.out.1; have hm2 := (hb.block _ (lt_of_heap HR1.out.2)).trans HR1.out.2; have q0 : w2.cell? ⟨w.heap.size, 0, none⟩ = some (.int .i64 z0) := cell_of_row _ _ _ _ _ _ hc2; have q1 : w2.cell? ⟨w.heap.size, 1, none⟩ = some (.int .i64 z1) := cell_of_row _ _ _ _ _ _ hc2; have q2 : w2.cell? ⟨w.heap.size, 2, none⟩ = some (.int .i64 z2) := cell_of_row _ _ _ _ _ _ hc2; have q3 : w2.cell? ⟨w.heap.size, 3, none⟩ = some (.int .i64 z3) := cell_of_row _ _ _ _ _ _ hc2; have q4 : w2.cell? ⟨w.heap.size, 4, none⟩ = some (.int .i64 z4) := cell_of_row _ _ _ _ _ _ hc2; have q5 : w2.cell? ⟨w.heap.size, 5, none⟩ = some (.int .i64 z5) := cell_of_row _ _ _ _ _ _ hc2; have u15 : w2.cell? ⟨w.heap.size + 1, 15, none⟩ = some (.slice p n c) := cell_of_row _ _ _ _ _ _ hm2; have HR2 := Lib.hid (And.intro hc2 hm2); clear hlo hp; clear hb hc2 hm2)
    | ((with_reducible refine at_loadM ?_); refine wpList_loadM rfl _ rfl (w.heap.size + 1) rfl (MC m (.slice p n c)) _ HR2.out.2 rfl ?_)
    | (go_at_call 14; (with_reducible refine (HA.out _ HB2.out _).mono ?_); rintro e w3 ⟨rfl, hb⟩; have HB3 := Lib.hid (fun o => bAl (bTr HB2.out hb) o); have hm3 := (hb.block _ (lt_of_heap HR2.out.2)).trans HR2.out.2; have HM3 := Lib.hid hm3; have t0 : ∀ o, (w3.alloc o).cell? ⟨w.heap.size + 1, 0, none⟩ = some (.int .i64 m.kind) := (fun o => cell_of_row _ _ _ _ _ _ ((heap_alloc_old w3 o (lt_of_heap hm3)).trans hm3)); clear hb hm3)
    | ((with_reducible refine at_storeM ?_); refine wpList_storeNM rfl _ _ rfl _ rfl #[.int .i64 0, .int .i64 0, .int .i64 0, .int .i64 0, .int .i64 0, .int .i64 0, .int .i64 0, .int .i64 0, .int .i64 0, .int .i64 0, .int .i64 0, .int .i64 0, .int .i64 0, .int .i64 0, .int .i64 0, .slice none 0 0] _ rfl rfl (by simp [Value.oneCell']) rfl rfl ?_)
    | ((with_reducible refine at_loadMG ?_); refine wpList_loadMG (by rfl) _ rfl (w.heap.size + 1) rfl (MC m (.slice p n c)) _ ((heap_alloc_old w3 _ (lt_of_heap HM3.out)).trans HM3.out) rfl ?_)
    | (go_at_call 15; (with_reducible refine (HCm.out.go _ (HB3.out _)).mono ?_); rintro e w4 ⟨rfl, hb⟩; have HB4 := Lib.hid (bTr (HB3.out _) hb); have hz4 := (hb.block w3.heap.size (by simp)).trans (heap_alloc_new w3 _); have v0 : w4.cell? ⟨w3.heap.size, 0, none⟩ = some (.int .i64 0) := cell_of_row _ _ _ _ _ _ hz4; have v2 : w4.cell? ⟨w3.heap.size, 2, none⟩ = some (.int .i64 0) := cell_of_row _ _ _ _ _ _ hz4; clear hb hz4))
  go_ret
  exact ⟨rfl, HB4.out⟩
theorem chk_bounds {m : Mg} (h : m.chk = 0) : 0 ≤ m.seq ∧ m.seq ≤ 65535 ∧ 0 ≤ m.port ∧ m.port ≤ 65535 ∧ 0 ≤ m.src ∧ m.src ≤ 281474976710655 := by
  unfold Mg.chk at h
  split at h
  · split at h
    · rename_i hw
      simp only [Bool.and_eq_true] at hw
      obtain ⟨⟨⟨⟨_, h2⟩, h3⟩, _⟩, _⟩ := hw
      have a := winB_iff.1 h2
      have b := winB_iff.1 h3
      have a1 := a m.seq (by simp)
      have a2 := a m.port (by simp)
      have b1 := b m.src (by simp)
      exact ⟨a1.1, a1.2, a2.1, a2.2, b1.1, b1.2⟩
    · cases h
  · cases h
set_option maxRecDepth 20000 in
set_option maxHeartbeats 8000000 in
theorem ans_yes (z0 z1 z2 z3 z4 z5 x y : Int) (m : Mg) (p : Option Addr) (n c : Nat) (w : World) (ho : OkC z0 z1 z2 z3 z4 z5) (hn : n ≤ 40) (hk : m.kind = 2) (hx : In64 x) (hy : In64 y) (hc : m.chk = 0) (hC : ChkTo w m (.slice p n c) 0) : Calls Try.prog 3 #[.agg #[.int .i64 z0, .int .i64 z1, .int .i64 z2, .int .i64 z3, .int .i64 z4, .int .i64 z5], .agg (MC m (.slice p n c)), .int .i64 x, .int .i64 y] w fun e w' => e = .returned (.bool true) ∧ Below w.heap.size w w' := by
  have HH := Lib.hid (fun W => head_ret W)
  have HT := Lib.hid (two_new w (.cells #[.int .i64 z0, .int .i64 z1, .int .i64 z2, .int .i64 z3, .int .i64 z4, .int .i64 z5] 24) (.cells (MC m (.slice p n c)) 30))
  have HB0 := Lib.hid (bAl (bAl (bRef w) (.cells #[.int .i64 z0, .int .i64 z1, .int .i64 z2, .int .i64 z3, .int .i64 z4, .int .i64 z5] 24)) (.cells (MC m (.slice p n c)) 30))
  have HN := Lib.hid (fun W => new_ok z0 z1 z2 z3 z4 z5 W ho)
  have d0 : decide ((40 : Int) < (n : Int)) = false := decide_eq_false (by omega)
  have d1 : (m.kind == 2) = true := by rw [beq_iff_eq]; exact hk
  obtain ⟨s0, s1, p0, p1, r0, r1⟩ := chk_bounds hc
  have HCa : Hid (∀ W, ChkTo W (RespM 3 m.seq z0 z1 x m.src m.port) (.slice none 0 0) 0) := Lib.hid (fun W => resp_to W (.inl rfl) s0 s1 ho.i0 ho.i1 ho.p0 ho.p1 r0 r1 p0 p1 hx)
  have HCb : Hid (∀ W, ChkTo W (RespM 10 m.seq z0 z1 y m.src m.port) (.slice none 0 0) 0) := Lib.hid (fun W => resp_to W (.inr rfl) s0 s1 ho.i0 ho.i1 ho.p0 ho.p1 r0 r1 p0 p1 hy)
  have HA := Lib.hid (fun W (hW : Below w.heap.size w W) (b : Nat) (c0 : W.cell? ⟨b, 0, none⟩ = some (.int .i64 z0)) (c1 : W.cell? ⟨b, 1, none⟩ = some (.int .i64 z1)) => answer_yes (m := m) (v := .slice p n c) x (rgt_chk hk (hC.mono hW)) c0 c1)
  have HM1 : Hid (∀ W b, Calls Try.prog 16 #[.pointer (some ⟨b, 0, none⟩), .agg (MC (RespM 3 m.seq z0 z1 x m.src m.port) (.slice none 0 0)), .int .i64 y] W fun e w' => e = .returned (.tuple #[.agg #[.int .i64 10, .int .i64 0, .int .i64 m.seq, .int .i64 z0, .int .i64 z1, .int .i64 0, .int .i64 y, .int .i64 m.src, .int .i64 m.port, .int .i64 0, .int .i64 0, .int .i64 0, .int .i64 0, .int .i64 0, .int .i64 0, .slice none 0 0], .bool true]) ∧ Below W.heap.size W w') := Lib.hid (fun W b => more_yes b y (rgt_chk rfl (HCa.out W)))
  have HM2 : Hid (∀ W b, Calls Try.prog 16 #[.pointer (some ⟨b, 0, none⟩), .agg (MC m (.slice p n c)), .int .i64 y] W fun e w' => e = .returned (.tuple #[.agg #[.int .i64 0, .int .i64 0, .int .i64 0, .int .i64 0, .int .i64 0, .int .i64 0, .int .i64 0, .int .i64 0, .int .i64 0, .int .i64 0, .int .i64 0, .int .i64 0, .int .i64 0, .int .i64 0, .int .i64 0, .slice none 0 0], .bool false]) ∧ Below W.heap.size W w') := Lib.hid (fun W b => more_no b m _ y W (rgt_kind W m _ (by omega)))
  have HM3 : Hid (∀ W b, Calls Try.prog 16 #[.pointer (some ⟨b, 0, none⟩), .agg (MC (RespM 10 m.seq z0 z1 y m.src m.port) (.slice none 0 0)), .int .i64 y] W fun e w' => e = .returned (.tuple #[.agg #[.int .i64 0, .int .i64 0, .int .i64 0, .int .i64 0, .int .i64 0, .int .i64 0, .int .i64 0, .int .i64 0, .int .i64 0, .int .i64 0, .int .i64 0, .int .i64 0, .int .i64 0, .int .i64 0, .int .i64 0, .slice none 0 0], .bool false]) ∧ Below W.heap.size W w') := Lib.hid (fun W b => more_no b (RespM 10 m.seq z0 z1 y m.src m.port) _ y W (rgt_kind W _ _ (by show (10 : Int) ≠ 3; decide)))
  have HCm := Lib.hid hC
  clear ho hn hk hx hy hc hC s0 s1 p0 p1 r0 r1
  unfold MC
  go_enter Try.func3, Try.ntmps3
  go_wp2_with (first
    | (go_at_call 11; (with_reducible refine (HH.out _).mono ?_); rintro e w1 ⟨rfl, hb⟩; have HB1 := Lib.hid (bTr HB0.out hb); have hc1 := (hb.block _ (lt_of_heap HT.out.1)).trans HT.out.1; have hm1 := (hb.block _ (lt_of_heap HT.out.2)).trans HT.out.2; have k0 : w1.cell? ⟨w.heap.size, 0, none⟩ = some (.int .i64 z0) := cell_of_row _ _ _ _ _ _ hc1; have k1 : w1.cell? ⟨w.heap.size, 1, none⟩ = some (.int .i64 z1) := cell_of_row _ _ _ _ _ _ hc1; have k2 : w1.cell? ⟨w.heap.size, 2, none⟩ = some (.int .i64 z2) := cell_of_row _ _ _ _ _ _ hc1; have k3 : w1.cell? ⟨w.heap.size, 3, none⟩ = some (.int .i64 z3) := cell_of_row _ _ _ _ _ _ hc1; have k4 : w1.cell? ⟨w.heap.size, 4, none⟩ = some (.int .i64 z4) := cell_of_row _ _ _ _ _ _ hc1; have k5 : w1.cell? ⟨w.heap.size, 5, none⟩ = some (.int .i64 z5) := cell_of_row _ _ _ _ _ _ hc1; have HR1 := Lib.hid (And.intro hc1 hm1); clear hb hc1 hm1)
    | (go_at_call 12; (with_reducible refine (HN.out _).mono ?_); rintro e w2 ⟨b, rfl, hlo, hp, hb⟩; have HB2 := Lib.hid (bTr HB1.out hb); have hc2 := (hb.block _ (lt_of_heap HR1.out.1)).trans HR1.out.1; have hm2 := (hb.block _ (lt_of_heap HR1.out.2)).trans HR1.out.2; have q0 : w2.cell? ⟨w.heap.size, 0, none⟩ = some (.int .i64 z0) := cell_of_row _ _ _ _ _ _ hc2; have q1 : w2.cell? ⟨w.heap.size, 1, none⟩ = some (.int .i64 z1) := cell_of_row _ _ _ _ _ _ hc2; have q2 : w2.cell? ⟨w.heap.size, 2, none⟩ = some (.int .i64 z2) := cell_of_row _ _ _ _ _ _ hc2; have q3 : w2.cell? ⟨w.heap.size, 3, none⟩ = some (.int .i64 z3) := cell_of_row _ _ _ _ _ _ hc2; have q4 : w2.cell? ⟨w.heap.size, 4, none⟩ = some (.int .i64 z4) := cell_of_row _ _ _ _ _ _ hc2; have q5 : w2.cell? ⟨w.heap.size, 5, none⟩ = some (.int .i64 z5) := cell_of_row _ _ _ _ _ _ hc2; have u15 : w2.cell? ⟨w.heap.size + 1, 15, none⟩ = some (.slice p n c) := cell_of_row _ _ _ _ _ _ hm2; have HR2 := Lib.hid (And.intro hc2 hm2); obtain ⟨pv, hpi⟩ := hp; have HP0 := Lib.hid hpi.c0; have HP1 := Lib.hid hpi.c1; clear hlo hpi; clear hb hc2 hm2)
    | ((with_reducible refine at_loadM ?_); refine wpList_loadM rfl _ rfl (w.heap.size + 1) rfl (MC m (.slice p n c)) _ HR2.out.2 rfl ?_)
    | (go_at_call 14; (with_reducible refine (HA.out _ HB2.out _ HP0.out HP1.out).mono ?_); rintro e w3 ⟨rfl, hb⟩; have HB3 := Lib.hid (fun o => bAl (bTr HB2.out hb) o); have hm3 := (hb.block _ (lt_of_heap HR2.out.2)).trans HR2.out.2; have HR3 := Lib.hid (And.intro ((hb.block _ (lt_of_heap HR2.out.1)).trans HR2.out.1) hm3); have t0 : ∀ o, (w3.alloc o).cell? ⟨w.heap.size + 1, 0, none⟩ = some (.int .i64 m.kind) := (fun o => cell_of_row _ _ _ _ _ _ ((heap_alloc_old w3 o (lt_of_heap hm3)).trans hm3)); clear hb hm3)
    | ((with_reducible refine at_storeM ?_); refine wpList_storeNM rfl _ _ rfl w3.heap.size rfl #[.int .i64 3, .int .i64 0, .int .i64 m.seq, .int .i64 z0, .int .i64 z1, .int .i64 0, .int .i64 x, .int .i64 m.src, .int .i64 m.port, .int .i64 0, .int .i64 0, .int .i64 0, .int .i64 0, .int .i64 0, .int .i64 0, .slice none 0 0] _ rfl rfl (by simp [Value.oneCell']) rfl rfl ?_)
    | ((with_reducible refine at_loadMG ?_); refine wpList_loadMG (by rfl) _ rfl (w.heap.size + 1) rfl (MC m (.slice p n c)) _ ((heap_alloc_old w3 _ (lt_of_heap HR3.out.2)).trans HR3.out.2) rfl ?_)
    | (go_at_call 15; (with_reducible refine (HCm.out.go _ (HB3.out _)).mono ?_); rintro e w4 ⟨rfl, hb⟩; have HB4 := Lib.hid (bTr (HB3.out _) hb); have HA4 := Lib.hid ((hb.block w3.heap.size (by simp)).trans (heap_alloc_new w3 _)); have HR4 := Lib.hid (And.intro ((hb.block _ (by have := lt_of_heap HR3.out.1; simp; omega)).trans ((heap_alloc_old w3 _ (lt_of_heap HR3.out.1)).trans HR3.out.1)) ((hb.block _ (by have := lt_of_heap HR3.out.2; simp; omega)).trans ((heap_alloc_old w3 _ (lt_of_heap HR3.out.2)).trans HR3.out.2))); clear hb)
    | ((with_reducible refine at_loadM ?_); refine wpList_loadM rfl _ rfl w3.heap.size rfl (MC (RespM 3 m.seq z0 z1 x m.src m.port) (.slice none 0 0)) _ HA4.out rfl ?_)
    | (go_at_call 15; (with_reducible refine ((HCa.out _).go _ (bRef _)).mono ?_); rintro e w5 ⟨rfl, hb⟩; have HB5 := Lib.hid (bTr HB4.out hb); have ha5 := (hb.block _ (lt_of_heap HA4.out)).trans HA4.out; have hc5 := (hb.block _ (lt_of_heap HR4.out.1)).trans HR4.out.1; have hm5 := (hb.block _ (lt_of_heap HR4.out.2)).trans HR4.out.2; have HA5 := Lib.hid ha5; have HR5 := Lib.hid (And.intro hc5 hm5); have a0 : w5.cell? ⟨w3.heap.size, 0, none⟩ = some (.int .i64 3) := cell_of_row _ _ _ _ _ _ ha5; have a2 : w5.cell? ⟨w3.heap.size, 2, none⟩ = some (.int .i64 m.seq) := cell_of_row _ _ _ _ _ _ ha5; have a3 : w5.cell? ⟨w3.heap.size, 3, none⟩ = some (.int .i64 z0) := cell_of_row _ _ _ _ _ _ ha5; have a4 : w5.cell? ⟨w3.heap.size, 4, none⟩ = some (.int .i64 z1) := cell_of_row _ _ _ _ _ _ ha5; have a6 : w5.cell? ⟨w3.heap.size, 6, none⟩ = some (.int .i64 x) := cell_of_row _ _ _ _ _ _ ha5; have a7 : w5.cell? ⟨w3.heap.size, 7, none⟩ = some (.int .i64 m.src) := cell_of_row _ _ _ _ _ _ ha5; have a8 : w5.cell? ⟨w3.heap.size, 8, none⟩ = some (.int .i64 m.port) := cell_of_row _ _ _ _ _ _ ha5; have b0 : w5.cell? ⟨w.heap.size, 0, none⟩ = some (.int .i64 z0) := cell_of_row _ _ _ _ _ _ hc5; have b1 : w5.cell? ⟨w.heap.size, 1, none⟩ = some (.int .i64 z1) := cell_of_row _ _ _ _ _ _ hc5; have g2 : w5.cell? ⟨w.heap.size + 1, 2, none⟩ = some (.int .i64 m.seq) := cell_of_row _ _ _ _ _ _ hm5; have g3 : w5.cell? ⟨w.heap.size + 1, 3, none⟩ = some (.int .i64 m.src) := cell_of_row _ _ _ _ _ _ hm5; have g4 : w5.cell? ⟨w.heap.size + 1, 4, none⟩ = some (.int .i64 m.port) := cell_of_row _ _ _ _ _ _ hm5; clear hb ha5 hc5 hm5)
    | ((with_reducible refine at_loadM ?_); refine wpList_loadM rfl _ rfl w3.heap.size rfl (MC (RespM 3 m.seq z0 z1 x m.src m.port) (.slice none 0 0)) _ HA5.out rfl ?_)
    | (go_at_call 16; (with_reducible refine (HM1.out w5 _).mono ?_); rintro e w6 ⟨rfl, hb⟩; have HB6 := Lib.hid (fun o => bAl (bTr HB5.out hb) o); have HA6 := Lib.hid ((hb.block _ (lt_of_heap HA5.out)).trans HA5.out); have HR6 := Lib.hid ((hb.block _ (lt_of_heap HR5.out.2)).trans HR5.out.2); clear hb)
    | ((with_reducible refine at_storeM ?_); refine wpList_storeNM rfl _ _ rfl w6.heap.size rfl #[.int .i64 10, .int .i64 0, .int .i64 m.seq, .int .i64 z0, .int .i64 z1, .int .i64 0, .int .i64 y, .int .i64 m.src, .int .i64 m.port, .int .i64 0, .int .i64 0, .int .i64 0, .int .i64 0, .int .i64 0, .int .i64 0, .slice none 0 0] _ rfl rfl (by simp [Value.oneCell']) rfl rfl ?_)
    | ((with_reducible refine at_loadM ?_); refine wpList_loadM rfl _ rfl (w.heap.size + 1) rfl (MC m (.slice p n c)) _ ((heap_alloc_old w6 _ (lt_of_heap HR6.out)).trans HR6.out) rfl ?_)
    | (go_at_call 16; (with_reducible refine (HM2.out (w6.alloc _) _).mono ?_); rintro e w7 ⟨rfl, hb⟩; have HB7 := Lib.hid (fun o => bAl (bTr (HB6.out _) hb) o); have HA7 := Lib.hid ((hb.block _ (by have := lt_of_heap HA6.out; simp; omega)).trans ((heap_alloc_old w6 _ (lt_of_heap HA6.out)).trans HA6.out)); have HD7 := Lib.hid ((hb.block w6.heap.size (by simp)).trans (heap_alloc_new w6 _)); clear hb)
    | ((with_reducible refine at_storeM ?_); refine wpList_storeNM rfl _ _ rfl w7.heap.size rfl #[.int .i64 0, .int .i64 0, .int .i64 0, .int .i64 0, .int .i64 0, .int .i64 0, .int .i64 0, .int .i64 0, .int .i64 0, .int .i64 0, .int .i64 0, .int .i64 0, .int .i64 0, .int .i64 0, .int .i64 0, .slice none 0 0] _ rfl rfl (by simp [Value.oneCell']) rfl rfl ?_)
    | ((with_reducible refine at_loadM ?_); refine wpList_loadM rfl _ rfl w6.heap.size rfl (MC (RespM 10 m.seq z0 z1 y m.src m.port) (.slice none 0 0)) _ ((heap_alloc_old w7 _ (lt_of_heap HD7.out)).trans HD7.out) rfl ?_)
    | (go_at_call 16; (with_reducible refine (HM3.out (w7.alloc _) _).mono ?_); rintro e w8 ⟨rfl, hb⟩; have HB8 := Lib.hid (fun o => bAl (bTr (HB7.out _) hb) o); have ha8 := (hb.block _ (by have := lt_of_heap HA7.out; simp; omega)).trans ((heap_alloc_old w7 _ (lt_of_heap HA7.out)).trans HA7.out); have hd8 := (hb.block _ (by have := lt_of_heap HD7.out; simp; omega)).trans ((heap_alloc_old w7 _ (lt_of_heap HD7.out)).trans HD7.out); have HD8 := Lib.hid hd8; have A2 : ∀ o, (w8.alloc o).cell? ⟨w3.heap.size, 2, none⟩ = some (.int .i64 m.seq) := (fun o => cell_of_row _ _ _ _ _ _ ((heap_alloc_old w8 o (lt_of_heap ha8)).trans ha8)); have A7 : ∀ o, (w8.alloc o).cell? ⟨w3.heap.size, 7, none⟩ = some (.int .i64 m.src) := (fun o => cell_of_row _ _ _ _ _ _ ((heap_alloc_old w8 o (lt_of_heap ha8)).trans ha8)); have A8 : ∀ o, (w8.alloc o).cell? ⟨w3.heap.size, 8, none⟩ = some (.int .i64 m.port) := (fun o => cell_of_row _ _ _ _ _ _ ((heap_alloc_old w8 o (lt_of_heap ha8)).trans ha8)); have D0 : ∀ o, (w8.alloc o).cell? ⟨w6.heap.size, 0, none⟩ = some (.int .i64 10) := (fun o => cell_of_row _ _ _ _ _ _ ((heap_alloc_old w8 o (lt_of_heap hd8)).trans hd8)); have D2 : ∀ o, (w8.alloc o).cell? ⟨w6.heap.size, 2, none⟩ = some (.int .i64 m.seq) := (fun o => cell_of_row _ _ _ _ _ _ ((heap_alloc_old w8 o (lt_of_heap hd8)).trans hd8)); have D6 : ∀ o, (w8.alloc o).cell? ⟨w6.heap.size, 6, none⟩ = some (.int .i64 y) := (fun o => cell_of_row _ _ _ _ _ _ ((heap_alloc_old w8 o (lt_of_heap hd8)).trans hd8)); have D7 : ∀ o, (w8.alloc o).cell? ⟨w6.heap.size, 7, none⟩ = some (.int .i64 m.src) := (fun o => cell_of_row _ _ _ _ _ _ ((heap_alloc_old w8 o (lt_of_heap hd8)).trans hd8)); have D8 : ∀ o, (w8.alloc o).cell? ⟨w6.heap.size, 8, none⟩ = some (.int .i64 m.port) := (fun o => cell_of_row _ _ _ _ _ _ ((heap_alloc_old w8 o (lt_of_heap hd8)).trans hd8)); clear hb ha8 hd8)
    | ((with_reducible refine at_storeM ?_); refine wpList_storeNM rfl _ _ rfl w8.heap.size rfl #[.int .i64 0, .int .i64 0, .int .i64 0, .int .i64 0, .int .i64 0, .int .i64 0, .int .i64 0, .int .i64 0, .int .i64 0, .int .i64 0, .int .i64 0, .int .i64 0, .int .i64 0, .int .i64 0, .int .i64 0, .slice none 0 0] _ rfl rfl (by simp [Value.oneCell']) rfl rfl ?_)
    | ((with_reducible refine at_loadMG ?_); refine wpList_loadMG (by rfl) _ rfl w6.heap.size rfl (MC (RespM 10 m.seq z0 z1 y m.src m.port) (.slice none 0 0)) _ ((heap_alloc_old w8 _ (lt_of_heap HD8.out)).trans HD8.out) rfl ?_)
    | (go_at_call 15; (with_reducible refine ((HCb.out _).go _ (bRef _)).mono ?_); rintro e w9 ⟨rfl, hb⟩; have HB9 := Lib.hid (bTr (HB8.out _) hb); clear hb))
  go_ret
  exact ⟨rfl, HB9.out⟩

theorem peerAnswers_holds : Rows.PeerAnswersSaid := peerAnswers_of (fun z0 z1 z2 z3 z4 z5 m u x y w _ _ _ _ _ _ hw hA hx hy => by
  obtain ⟨p, c, rfl⟩ := hA.slice
  show Calls _ _ #[.agg #[.int .i64 z0, .int .i64 z1, .int .i64 z2, .int .i64 z3, .int .i64 z4, .int .i64 z5], .agg (MC m (.slice p m.path.length c)), .int .i64 x, .int .i64 y] _ _
  by_cases ho : OkC z0 z1 z2 z3 z4 z5
  · by_cases hn : 40 < m.path.length
    · exact ans_long z0 z1 z2 z3 z4 z5 x y m p _ c w ho hn
    · have hC := ChkTo.of hw hA (by omega)
      by_cases hk : m.kind = 2
      · by_cases hc : m.chk = 0
        · rw [hc] at hC
          exact ans_yes z0 z1 z2 z3 z4 z5 x y m p _ c w ho (by omega) hk hx hy hc hC
        · exact ans_wrong z0 z1 z2 z3 z4 z5 x y m p _ c w ho (by omega) hk _ hc hC
      · exact ans_kind z0 z1 z2 z3 z4 z5 x y m p _ c w ho (by omega) hk
  · exact ans_bad z0 z1 z2 z3 z4 z5 x y m p _ c w ho)

end Go.Proofs.Ytnfoimkiihfalaa
