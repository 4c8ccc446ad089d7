/- For all ints, and slices of them, SyncChain answers true: from clock to clock, each running evenly at its own rate, over links that are measured rightly, the last one tells the first one's time, but for some parts of a nanosecond for each. No condition. -/
import Derived.Test.YtnfoimkiihfalaaFSyncChain
import Derived.Test.YtnfoimkiihfalaaSyCh2
namespace Go.Proofs.Ytnfoimkiihfalaa
open Go.RowKit Go.Joins

theorem low24 (n : Int) : bits .and .i64 n 16777215 = n % 16777216 := and_low n 24 (by omega)
theorem low20 (n : Int) : bits .and .i64 n 1048575 = n % 1048576 := and_low n 20 (by omega)
theorem low12 (n : Int) : bits .and .i64 n 4095 = n % 4096 := and_low n 12 (by omega)
theorem ButB.keepc {b g i : Nat} {w w' : World} {x : Value} (h : ButB b w w') (hc : w.cell? ⟨g, i, none⟩ = some x) (hn : g ≠ b) : w'.cell? ⟨g, i, none⟩ = some x := by
  have e := h.block g (block_lt_cell hc) hn
  rw [← hc]
  unfold World.cell?
  rw [show (⟨g, i, none⟩ : Addr).block = g from rfl, e]
theorem wr64 {x : Int} (h0 : -1000000000000000 ≤ x) (h1 : x ≤ 1000000000000000) : wrap64 x = x := by unfold wrap64; omega
def ChRel (w : World) (v : Value) (xs : List Int) (n : Nat) (lv nv kv : Value) (wr : World) : Prop :=
  ∃ (j b : Nat) (N : Int) (s : CS), kv = .int .i64 ((j : Int) + 1) ∧ lv = .pointer (some ⟨b, 0, none⟩) ∧ nv = .int .i64 N ∧ j ≤ n ∧ 1000000 ≤ N ∧ N ≤ 17777215 + 9095 * (j : Int) ∧ ClkSt xs j N s ∧ Ck wr b s ∧ w.heap.size ≤ b ∧ Below w.heap.size w wr ∧ Pp wr w.heap.size v xs
theorem meas_up {n j : Nat} {z : Int} (e : z = (j : Int) + 1 + 1) (h : j < n) : n + 2 - (intOf (.int .i64 z)).toNat < n + 2 - (intOf (.int .i64 ((j : Int) + 1))).toNat := by
  subst e
  show n + 2 - ((j : Int) + 1 + 1).toNat < n + 2 - ((j : Int) + 1).toNat
  omega
theorem chain_many (v v2 : Value) (n c n2 c2 : Nat) (p p2 : Option Addr) (x2 x3 : Int) (w : World) (hv : v = .slice p n c) (hv2 : v2 = .slice p2 n2 c2) (h : 6 < n ∨ n2 < n) : Calls Try.prog 8 #[v, v2, .int .i64 x2, .int .i64 x3] w fun e w' => e = .returned (.bool true) ∧ Below w.heap.size w w' := by
  subst hv hv2
  have HH := Lib.hid (fun W => headS_ret W)
  by_cases h6 : 6 < n
  · have d0 : decide ((6 : Int) < (n : Int)) = true := decide_eq_true (by omega)
    clear h h6
    go_enter Try.func8, Try.ntmps8
    go_wp2_with (go_at_call 29; (with_reducible refine (HH.out _).mono ?_); rintro e w0 ⟨rfl, hb⟩; have c0 : w0.cell? ⟨w.heap.size, 0, none⟩ = some (.slice p n c) := (hb.cell (p := ⟨w.heap.size, 0, none⟩) (by simp)).trans (cell_of_row _ _ 0 _ _ _ (heap_alloc_new w _)); have HB0 := Lib.hid (bTr (bAl (bRef w) _) hb); clear hb)
    go_ret
    exact ⟨rfl, HB0.out⟩
  · have d0 : decide ((6 : Int) < (n : Int)) = false := decide_eq_false (by omega)
    have d1 : decide ((n2 : Int) < (n : Int)) = true := decide_eq_true (by omega)
    have d11 : decide (n2 < n) = true := decide_eq_true (by omega)
    have d12 : n2 < n := by omega
    clear h h6
    go_enter Try.func8, Try.ntmps8
    go_wp2_with (go_at_call 29; (with_reducible refine (HH.out _).mono ?_); rintro e w0 ⟨rfl, hb⟩; have c0 : w0.cell? ⟨w.heap.size, 0, none⟩ = some (.slice p n c) := (hb.cell (p := ⟨w.heap.size, 0, none⟩) (by simp)).trans (cell_of_row _ _ 0 _ _ _ (heap_alloc_new w _)); have HB0 := Lib.hid (bTr (bAl (bRef w) _) hb); clear hb)
    go_ret
    exact ⟨rfl, HB0.out⟩
set_option maxRecDepth 20000 in
set_option maxHeartbeats 8000000 in
theorem chain_ok (p p2 : Option Addr) (n c n2 c2 : Nat) (xs ys : List Int) (x2 x3 : Int) (w : World) (hx : LArg w (.slice p n c) xs) (hy : LArg w (.slice p2 n2 c2) ys) (hn : xs.length = n) (hn2 : ys.length = n2) (h6 : n ≤ 6) (h7 : n ≤ n2) : Calls Try.prog 8 #[.slice p n c, .slice p2 n2 c2, .int .i64 x2, .int .i64 x3] w fun e w' => e = .returned (.bool true) ∧ Below w.heap.size w w' := by
  have HH := Lib.hid (fun W => headS_ret W)
  have HN := Lib.hid (fun W => newc_any 0 W)
  have l2 := low24 x2
  have l3 := low20 x3
  obtain ⟨st, hst⟩ : ∃ a, 1000000 + x2 % 16777216 = a := ⟨_, rfl⟩
  obtain ⟨la, hla⟩ : ∃ a, x3 % 1048576 = a := ⟨_, rfl⟩
  have s0 : 1000000 ≤ st := by omega
  have s1 : st ≤ 17777215 := by omega
  have z0 : 0 ≤ la := by omega
  have z1 : la ≤ 1048575 := by omega
  rw [hla] at l3
  have e1 : wrap64 (1000000 + x2 % 16777216) = st := by unfold wrap64; omega
  have d0 : decide ((6 : Int) < (n : Int)) = false := decide_eq_false (by omega)
  have d1 : decide ((n2 : Int) < (n : Int)) = false := decide_eq_false (by omega)
  have d11 : decide (n2 < n) = false := decide_eq_false (by omega)
  have HX := Lib.hid hx
  have HY := Lib.hid hy
  have HQ := Lib.hid (And.intro (And.intro hn hn2) (And.intro (And.intro h6 h7) (And.intro (And.intro s0 s1) (And.intro z0 z1))))
  have HO : Hid (∀ W b, Ck W b (CS.new 0) → Calls Try.prog 33 #[.pointer (some ⟨b, 0, none⟩), .bool true, .int .i64 0] W fun e w' => e = .returned (.tuple #[]) ∧ LeaveC b W CS.best w') := Lib.hid (fun W b h => own_new h rfl rfl 0)
  clear hla hx hy hn hn2 h6 h7 s0 s1 z0 z1
  go_enter Try.func8, Try.ntmps8
  go_wp2_with (first
    | (go_at_call 29; (with_reducible refine (HH.out _).mono ?_); rintro e w0 ⟨rfl, hb⟩; have c0 : w0.cell? ⟨w.heap.size, 0, none⟩ = some (.slice p n c) := (hb.cell (p := ⟨w.heap.size, 0, none⟩) (by simp)).trans (cell_of_row _ _ 0 _ _ _ (heap_alloc_new w _)); have HB0 := Lib.hid (bTr (bAl (bRef w) _) hb); have HP0 : Hid (Pp w0 w.heap.size (.slice p n c) xs) := Lib.hid ⟨c0, HX.out.below (bTr (bAl (bRef w) _) hb)⟩; clear hb)
    | (go_at_call 32; (with_reducible refine (HN.out _).mono ?_); rintro e w1 ⟨b, rfl, hlo, hc, hb⟩; have HC1 := Lib.hid hc; have HB1 := Lib.hid (bTr HB0.out hb); have HL := Lib.hid (Nat.le_trans HB0.out.size hlo); have HP1 := Lib.hid (HP0.out.below hb); have HNB := Lib.hid (show w.heap.size ≠ b from (by have hh : w.heap.size < w0.heap.size := block_lt_cell HP0.out.box; omega)); clear hc hb hlo)
    | (go_at_call 33; (with_reducible refine (HO.out _ _ HC1.out).mono ?_); rintro e w2 ⟨rfl, hc, hb⟩; have HC2 := Lib.hid hc; have HB2 := Lib.hid (hb.into HB1.out HL.out); have HP2 : Hid (Pp w2 w.heap.size (.slice p n c) xs) := Lib.hid ⟨hb.keepc HP1.out.box HNB.out, HX.out.below (hb.into HB1.out HL.out)⟩; clear hc hb))
  go_loopw [12, 13, 14] (fun lv nv kv wr => ChRel w (.slice p n c) xs n lv nv kv wr) (fun _ _ kv _ => n + 2 - (intOf kv).toNat)
  case atStart => exact ⟨0, b, st, CS.best, rfl, rfl, rfl, by omega, HQ.out.2.2.1.1, by have := HQ.out.2.2.1.2; omega, .inl ⟨rfl, rfl⟩, HC2.out, HL.out, HB2.out, HP2.out⟩
  case round =>
    clear HB0 HP0 HC1 HB1 HL HP1 HNB HC2 HB2 HP2 HH HO hst e1 l2 d0 d1 d11 c0
    obtain ⟨j, b, N, s, rfl, rfl, rfl, hj, n0, n1, hs, hc, hlb, hb, hp⟩ := hrel
    obtain ⟨⟨hn, hn2⟩, ⟨h6, h7⟩, ⟨s0, s1⟩, ⟨z0, z1⟩⟩ := HQ.out
    have HC := Lib.hid hc
    have HB := Lib.hid hb
    have HP := Lib.hid hp
    have HLB := Lib.hid hlb
    have cb := hp.box
    clear hc hb hlb
    rcases Nat.lt_or_ge j n with g | g
    · have hd : decide ((j : Int) + 1 ≤ (n : Int)) = true := decide_eq_true (by omega)
      obtain ⟨corr, time, R, hT, ic, it, hr, y0, y1⟩ := tell_clk hs (by omega) n0 (by omega) (q := (j : Int) + 1) (by omega) (by omega)
      obtain ⟨d, hdd⟩ : ∃ d, ys.getD j 0 % 4096 = d := ⟨_, rfl⟩
      have dd0 : 0 ≤ d := by omega
      have dd1 : d ≤ 4095 := by omega
      have E2 : Hid (wrap64 (N + d) = N + d) := Lib.hid (wr64 (by omega) (by omega))
      have E3 : Hid (wrap64 (d * 65536) = d * 65536) := Lib.hid (wr64 (by omega) (by omega))
      have E4 : Hid (wrap64 (d + 5000) = d + 5000) := Lib.hid (wr64 (by omega) (by omega))
      have E5 : Hid (wrap64 (N + (d + 5000)) = N + d + 5000) := Lib.hid ((wr64 (by omega) (by omega)).trans (by omega))
      have E6 : Hid (wrap64 ((j : Int) + 1 + 1) = (j : Int) + 1 + 1) := Lib.hid (wr64 (by omega) (by omega))
      have E7 : Hid (wrap64 (j : Int) = (j : Int)) := Lib.hid (wr64 (by omega) (by omega))
      have E8 : Hid (wrap64 ((j : Int) + 1 - 1) = (j : Int)) := Lib.hid ((wr64 (by omega) (by omega)).trans (by omega))
      have D2 : Hid (decide ((j : Int) < (n2 : Int)) = true) := Lib.hid (decide_eq_true (by omega))
      have D3 : Hid (decide (j < n2) = true) := Lib.hid (decide_eq_true (by omega))
      have D4 : Hid (j < n2) := Lib.hid (by omega)
      have HND := Lib.hid (And.intro (show 1000000 ≤ N + d + 5000 by omega) (show N + d + 5000 ≤ 17777215 + 9095 * ((j + 1 : Nat) : Int) by omega))
      obtain ⟨Q, bE, bV, hQ, iQ⟩ := ratio_ok xs j (j + 1)
      obtain ⟨S, d', t', hF, hst⟩ := next_clk (q := (j : Int) + 1) (d := d) (by omega) n0 (by omega) dd0 dd1 ic it hr y0 y1 hQ iQ
      have HST := Lib.hid hst
      have HFo := Lib.hid hF
      have HTe := Lib.hid hT
      have HDs := Lib.hid (⟨by decide, by decide, by omega, by omega, by decide, by decide, by decide, by decide⟩ : Hd 0 ((j : Int) + 1) 7 1)
      have hrj := rho_near xs j
      have hrk := rho_near xs (j + 1)
      have HA1 : Hid (∀ W, Pp W w.heap.size (.slice p n c) xs → Calls Try.prog 30 #[.int .i64 (j : Int), .int .i64 N, .pointer (some ⟨w.heap.size, 0, none⟩)] W fun e w' => e = .returned (.int .i64 (tl (rho xs j) N)) ∧ Below W.heap.size W w') := Lib.hid (fun W h => told_of h (by omega) (by omega) (by omega) (by omega))
      have HA2 : Hid (∀ W, Pp W w.heap.size (.slice p n c) xs → Calls Try.prog 30 #[.int .i64 ((j : Int) + 1), .int .i64 (N + d), .pointer (some ⟨w.heap.size, 0, none⟩)] W fun e w' => e = .returned (.int .i64 (tl (rho xs (j + 1)) (N + d))) ∧ Below W.heap.size W w') := Lib.hid (fun W h => told_of (k := j + 1) h (by omega) (by omega) (by omega) (by omega))
      have HR1 : Hid (∀ W, Pp W w.heap.size (.slice p n c) xs → Calls Try.prog 31 #[.int .i64 (j : Int), .pointer (some ⟨w.heap.size, 0, none⟩)] W fun e w' => e = .returned (.int .i64 (rho xs j)) ∧ Below W.heap.size W w') := Lib.hid (fun W h => rate_of h (by omega) (by omega))
      have HR2 : Hid (∀ W, Pp W w.heap.size (.slice p n c) xs → Calls Try.prog 31 #[.int .i64 ((j : Int) + 1), .pointer (some ⟨w.heap.size, 0, none⟩)] W fun e w' => e = .returned (.int .i64 (rho xs (j + 1))) ∧ Below W.heap.size W w') := Lib.hid (fun W h => rate_of (k := j + 1) h (by omega) (by omega))
      have HBt := bt_ret (a := rho xs j) (b := rho xs (j + 1)) ⟨by have := hrj.1; omega, by have := hrj.2; omega⟩ ⟨by have := hrk.1; omega, by have := hrk.2; omega⟩
      rw [bE, bV] at HBt
      replace HBt := Lib.hid HBt
      have HBy := by_ret (s := d * 65536) (r := rho xs (j + 1)) ⟨by omega, by omega⟩ ⟨by have := hrk.1; omega, by have := hrk.2; omega⟩
      rw [(tl_near hrk dd0 (by omega)).1] at HBy
      change Ret _ _ (.tuple #[.int .i64 (tl (rho xs (j + 1)) d), .int .i64 0]) at HBy
      replace HBy := Lib.hid HBy
      obtain ⟨q2, o2, hdl⟩ : ∃ q2 o2, p2 = some ⟨q2, o2, none⟩ ∧ q2 < w.heap.size ∧ w.cell? ⟨q2, o2 + j, none⟩ = some (.int .i64 (ys.getD j 0)) := by
        rcases HY.out.2 with ⟨rfl, _⟩ | ⟨k0, q2, o2, c', e, _, hrd⟩
        · simp at hn2; omega
        · injection e with e e2 e3
          exact ⟨q2, o2, e, (hrd k0).1, (hrd k0).2 j (by omega)⟩
      obtain ⟨rfl, hq2, hcd⟩ := hdl
      have HCD := Lib.hid (fun W (hW : Below w.heap.size w W) => (hW.cell (p := ⟨q2, o2 + j, none⟩) hq2).trans hcd)
      have l12 := low12 (ys.getD j 0)
      rw [hdd] at l12
      have e2 := E2.out
      have e3 := E3.out
      have e4 := E4.out
      have e5 := E5.out
      have e6 := E6.out
      have e7 := E7.out
      have e8 := E8.out
      have d2 := D2.out
      have d3 := D3.out
      have d4 := D4.out
      generalize ys.getD j 0 = z at *
      generalize tl (rho xs j) N = T1 at *
      generalize tl (rho xs (j + 1)) (N + d) = T2 at *
      generalize tl (rho xs (j + 1)) d = T3 at *
      generalize rho xs j = ra at *
      generalize rho xs (j + 1) = rb at *
      clear hrj hrk hdd dd0 dd1 bE bV hQ iQ hst hF hT ic it hr y0 y1 hs hn hn2 h6 h7 s0 s1 z0 z1 n0 n1 hj hp hq2 hcd
      go_wp2_with (first
        | (go_at_call 30; (with_reducible refine (HA1.out wr HP.out).mono ?_); rintro e w4 ⟨rfl, hb⟩; have HC4 := Lib.hid (HC.out.below hb); have HB4 := Lib.hid (bTr HB.out hb); have HP4 := Lib.hid (HP.out.below hb); clear hb)
        | (go_at_call 34; (with_reducible refine (HTe.out _ _ HC4.out).mono ?_); rintro e w5 ⟨rfl, hb⟩; have HB5 := Lib.hid (fun o => bAl (bTr HB4.out hb) o); have HP5 := Lib.hid (fun o => (HP4.out.below hb).below (bAl (bRef w5) o)); have dc := fun o => HCD.out _ (bAl (bTr HB4.out hb) o); have lb5 : w.heap.size < w5.heap.size := block_lt_cell (HP4.out.below hb).box; clear hb)
        | ((with_reducible refine at_storeM ?_); refine wpList_storeNM rfl _ _ rfl _ rfl (MC (FolM 0 ((j : Int) + 1) 7 1 corr time R) (.slice none 0 0)) _ rfl rfl (MC_one _ _ _ _) rfl rfl ?_)
        | (go_at_call 32; (with_reducible refine (HN.out _).mono ?_); rintro e w6 ⟨b2, rfl, hlo, hc, hb⟩; have HX6 := Lib.hid hc; have HB6 := Lib.hid (bTr (HB5.out _) hb); have HP6 := Lib.hid ((HP5.out _).below hb); have HR6 := Lib.hid ((hb.block w5.heap.size (by simp)).trans (heap_alloc_new w5 _)); have hlo2 : w5.heap.size + 1 ≤ b2 := (by simpa using hlo); have HL6 := Lib.hid (show w.heap.size ≤ b2 from (by omega)); have HNB := Lib.hid (show w.heap.size ≠ b2 from (by omega)); have HNM := Lib.hid (show w5.heap.size ≠ b2 from (by omega)); clear hc hb hlo hlo2)
        | ((with_reducible refine at_bP _ _ _ _ ?_); refine wpList_buildGG (by rfl) _ _ rfl (MC (SynM 0 ((j : Int) + 1) 7 1) (.slice none 0 0)) (by simp only [List.map_toArray, List.map_cons, List.map_nil]; exact Try.bSynP ((j : Int) + 1) 7 1) ?_)
        | (go_at_call 30; (with_reducible refine (HA2.out w6 HP6.out).mono ?_); rintro e w7 ⟨rfl, hb⟩; have HX7 := Lib.hid (HX6.out.below hb); have HB7 := Lib.hid (bTr HB6.out hb); have HP7 := Lib.hid (HP6.out.below hb); have HR7 := Lib.hid ((hb.block _ (lt_of_heap HR6.out)).trans HR6.out); clear hb)
        | (go_at_call 35; (with_reducible refine (new_sync HX7.out HDs.out).mono ?_); rintro e w8 ⟨rfl, hc, hb⟩; have HX8 := Lib.hid hc; have HB8 := Lib.hid (hb.into HB7.out HL6.out); have HP8 : Hid (Pp w8 w.heap.size (.slice p n c) xs) := Lib.hid ⟨hb.keepc HP7.out.box HNB.out, HX.out.below (hb.into HB7.out HL6.out)⟩; have HR8 := Lib.hid ((hb.block _ (lt_of_heap HR7.out) HNM.out).trans HR7.out); clear hc hb)
        | (go_at_call 31; (with_reducible refine (HR1.out w8 HP8.out).mono ?_); rintro e w9 ⟨rfl, hb⟩; have HX9 := Lib.hid (HX8.out.below hb); have HB9 := Lib.hid (bTr HB8.out hb); have HP9 := Lib.hid (HP8.out.below hb); have HR9 := Lib.hid ((hb.block _ (lt_of_heap HR8.out)).trans HR8.out); clear hb)
        | (go_at_call 31; (with_reducible refine (HR2.out w9 HP9.out).mono ?_); rintro e wa ⟨rfl, hb⟩; have HXa := Lib.hid (HX9.out.below hb); have HBa := Lib.hid (bTr HB9.out hb); have HPa := Lib.hid (HP9.out.below hb); have HRa := Lib.hid ((hb.block _ (lt_of_heap HR9.out)).trans HR9.out); clear hb)
        | (go_at_call 36; (with_reducible refine (HBt.out.go wa).mono ?_); rintro e wb ⟨rfl, hb⟩; have HXb := Lib.hid (HXa.out.below hb); have HBb := Lib.hid (bTr HBa.out hb); have HPb := Lib.hid (HPa.out.below hb); have HRb := Lib.hid ((hb.block _ (lt_of_heap HRa.out)).trans HRa.out); clear hb)
        | (go_at_call 31; (with_reducible refine (HR2.out wb HPb.out).mono ?_); rintro e wc ⟨rfl, hb⟩; have HXc := Lib.hid (HXb.out.below hb); have HBc := Lib.hid (bTr HBb.out hb); have HPc := Lib.hid (HPb.out.below hb); have HRc := Lib.hid ((hb.block _ (lt_of_heap HRb.out)).trans HRb.out); clear hb)
        | (go_at_call 23; (with_reducible refine (HBy.out.go wc).mono ?_); rintro e wd ⟨rfl, hb⟩; have HXd := Lib.hid (HXc.out.below hb); have HBd := Lib.hid (bTr HBc.out hb); have HPd := Lib.hid (HPc.out.below hb); have HRd := Lib.hid ((hb.block _ (lt_of_heap HRc.out)).trans HRc.out); clear hb)
        | ((with_reducible refine at_loadMG ?_); refine wpList_loadMG (by rfl) _ rfl w5.heap.size rfl (MC (FolM 0 ((j : Int) + 1) 7 1 corr time R) (.slice none 0 0)) _ HRd.out rfl ?_)
        | (go_at_call 37; (with_reducible refine (new_follow HXd.out HDs.out HFo.out).mono ?_); rintro e we ⟨rfl, hc, hb⟩; have HXe := Lib.hid hc; have HBe := Lib.hid (hb.into HBd.out HL6.out); have HPe : Hid (Pp we w.heap.size (.slice p n c) xs) := Lib.hid ⟨hb.keepc HPd.out.box HNB.out, HX.out.below (hb.into HBd.out HL6.out)⟩; clear hc hb))
      clear hd e2 e3 e4 e7 e8 d2 d3 d4 l12
      go_roundw
      case rel => exact ⟨j + 1, b2, _, _, by first | rfl | (rw [e6]; rfl), rfl, rfl, g, by first | exact HND.out.1 | (rw [e5]; exact HND.out.1), by first | exact HND.out.2 | (rw [e5]; exact HND.out.2), by first | exact HST.out | (rw [e5]; exact HST.out), HXe.out, HL6.out, HBe.out, HPe.out⟩
      case measure => first | exact meas_up rfl g | exact meas_up e6 g
    · obtain rfl : j = n := by omega
      have hd : decide ((j : Int) + 1 ≤ (j : Int)) = false := decide_eq_false (by omega)
      obtain ⟨y, hA, y0, y1⟩ := at_clk hs (by omega) n0 (N' := N + la) (by omega) (by omega) (by omega)
      obtain ⟨q, hq⟩ : ∃ q, la.tdiv 1000 = q := ⟨_, rfl⟩
      have hq2 : q = la / 1000 := by rw [← hq, Int.tdiv_eq_ediv_of_nonneg z0]
      have q0 : 0 ≤ q := by omega
      have q1 : q ≤ 1048 := by omega
      obtain ⟨A, hA2⟩ : ∃ A, 100 * ((j : Int) + 1) = A := ⟨_, rfl⟩
      obtain ⟨Wt, hW⟩ : ∃ Wt, (N + la) * 65536 = Wt := ⟨_, rfl⟩
      obtain ⟨off, ho⟩ : ∃ off, y - Wt = off := ⟨_, rfl⟩
      have E1 : Hid (wrap64 (N + la) = N + la) := Lib.hid (wr64 (by omega) (by omega))
      have E2 : Hid (wrap64 ((N + la) * 65536) = Wt) := Lib.hid ((wr64 (by omega) (by omega)).trans hW)
      have E3 : Hid (wrap64 (y - Wt) = off) := Lib.hid ((wr64 (by omega) (by omega)).trans ho)
      have E4 : Hid (wrap64 ((j : Int) + 1) = (j : Int) + 1) := Lib.hid (wr64 (by omega) (by omega))
      have E5 : Hid (wrap64 (100 * ((j : Int) + 1)) = A) := Lib.hid ((wr64 (by omega) (by omega)).trans hA2)
      have E6 : Hid (wrap64 (-100 * ((j : Int) + 1)) = -A) := Lib.hid ((wr64 (by omega) (by omega)).trans (by omega))
      have E7 : Hid (wrap64 q = q) := Lib.hid (wr64 (by omega) (by omega))
      have E8 : Hid (wrap64 (-A - q) = -A - q) := Lib.hid (wr64 (by omega) (by omega))
      have E9 : Hid (wrap64 (A + q) = A + q) := Lib.hid (wr64 (by omega) (by omega))
      have D1 : Hid (decide (-A - q < off) = true) := Lib.hid (decide_eq_true (by omega))
      have D2 : Hid (decide (off < A + q) = true) := Lib.hid (decide_eq_true (by omega))
      have HAt := Lib.hid hA
      have HT : Hid (∀ W, Pp W w.heap.size (.slice p j c) xs → Calls Try.prog 30 #[.int .i64 (j : Int), .int .i64 (N + la), .pointer (some ⟨w.heap.size, 0, none⟩)] W fun e w' => e = .returned (.int .i64 (tl (rho xs j) (N + la))) ∧ Below W.heap.size W w') := Lib.hid (fun W h => told_of h (by omega) (by omega) (by omega) (by omega))
      have e1 := E1.out
      have e2 := E2.out
      have e3 := E3.out
      have e4 := E4.out
      have e5 := E5.out
      have e6 := E6.out
      have e7 := E7.out
      have e8 := E8.out
      have e9 := E9.out
      have d1 := D1.out
      have d2 := D2.out
      generalize tl (rho xs j) (N + la) = T1 at *
      clear hA y0 y1 hq2 q0 q1 hA2 hW ho hs hn hn2 h6 h7 s0 s1 z0 z1 n0 n1 hj hp g
      go_wp2_with (first
        | (go_at_call 30; (with_reducible refine (HT.out wr HP.out).mono ?_); rintro e w4 ⟨rfl, hb⟩; have HC4 := Lib.hid (HC.out.below hb); have HB4 := Lib.hid (bTr HB.out hb); have HP4 := Lib.hid (HP.out.below hb); clear hb)
        | (go_at_call 38; (with_reducible refine (HAt.out _ _ HC4.out).mono ?_); rintro e w5 ⟨rfl, hb⟩; have HB5 := Lib.hid (bTr HB4.out hb); have cb5 := (HP4.out.below hb).box; clear hb))
      go_ret
      exact ⟨rfl, HB5.out⟩

theorem syncChain_holds : Rows.SyncChainSaid := syncChain_of (fun v xs v2 ys x2 x3 w hx hy _ _ => by
  obtain ⟨p, c, rfl⟩ := hx.slice
  obtain ⟨p2, c2, rfl⟩ := hy.slice
  by_cases h6 : 6 < xs.length
  · exact chain_many _ _ _ _ _ _ _ _ x2 x3 w rfl rfl (.inl h6)
  by_cases h7 : ys.length < xs.length
  · exact chain_many _ _ _ _ _ _ _ _ x2 x3 w rfl rfl (.inr h7)
  · exact chain_ok p p2 _ c _ c2 xs ys x2 x3 w hx hy rfl rfl (by omega) (by omega))

end Go.Proofs.Ytnfoimkiihfalaa
