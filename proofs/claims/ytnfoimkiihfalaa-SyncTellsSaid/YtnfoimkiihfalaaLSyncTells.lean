/- For all five ints SyncTells answers true: what one clock tells another one, over no distance and at one rate, is its own time. No condition. -/
import Derived.Test.YtnfoimkiihfalaaFSyncTells
import Derived.Test.YtnfoimkiihfalaaSyMath
import Derived.Test.YtnfoimkiihfalaaLow
namespace Go.Proofs.Ytnfoimkiihfalaa
open Go.RowKit Go.Joins

theorem low32 (n : Int) : bits .and .i64 n 4294967295 = n % 4294967296 := and_low n 32 (by omega)
theorem low40 (n : Int) : bits .and .i64 n 1099511627775 = n % 1099511627776 := and_low n 40 (by omega)
theorem low8 (n : Int) : bits .and .i64 n 255 = n % 256 := and_low n 8 (by omega)
theorem fol_zero {dom q src port t r : Int} (hr0 : 2198741780608 ≤ r) (hr1 : r ≤ 2199302531473) (t0 : 0 ≤ t) (t1 : t ≤ 1099511627775) (corr : Int) (c0 : 0 ≤ corr) (c1 : corr ≤ 4294967295) {z : Int} (hz : t + corr = z) : FolOk (FolM dom q src port corr t r) 0 2199023255552 r 0 z := by
  have i1 : In64 r := ⟨by omega, by omega⟩
  have m := mul_one' i1
  have b := by_zero (r := r) (by omega)
  exact ⟨i1, ⟨by decide, by decide⟩, m.1, m.2, ⟨by omega, by omega⟩, ⟨⟨by show -9223372036854775808 ≤ corr; omega, by show corr < 9223372036854775808; omega⟩, ⟨by show -9223372036854775808 ≤ t; omega, by show t < 9223372036854775808; omega⟩, ⟨by show -9223372036854775808 ≤ t + corr; omega, by show t + corr < 9223372036854775808; omega⟩, in64_0, i1, b.1, b.2, in64_0, ⟨by omega, by omega⟩, by show t + corr + 0 = z; omega⟩⟩
/-- How far the domain's time goes while the own clock goes so far. -/
theorem goes_on {r x : Int} (hr0 : 2198741780608 ≤ r) (hr1 : r ≤ 2199302531473) (h0 : 0 ≤ x) (h1 : x ≤ 4611686018427) : rE r x 2199023255552 = 0 ∧ 0 ≤ rV r x 2199023255552 ∧ rV r x 2199023255552 ≤ 2 * x + 1 := by
  have b1 : r * x ≤ 2199302531473 * x := Int.mul_le_mul_of_nonneg_right hr1 h0
  obtain ⟨e, q0, q1, q2⟩ := rv_near (a := r) (b := x) (c := 2199023255552) (by omega) h0 (by decide) (by omega)
  refine ⟨e, q0, ?_⟩
  generalize rV r x 2199023255552 = q at *
  generalize r * x = z at *
  omega
set_option maxRecDepth 20000 in
set_option maxHeartbeats 4000000 in
theorem stells_any (x0 x1 x2 x3 x4 : Int) (w : World) : Calls Try.prog 10 #[.int .i64 x0, .int .i64 x1, .int .i64 x2, .int .i64 x3, .int .i64 x4] w fun e w' => e = .returned (.bool true) ∧ Below w.heap.size w w' := by
  have HH := Lib.hid (fun W => headS_ret W)
  have HN := Lib.hid (fun W => newc_any 2 W)
  have l0 := low32 x0
  have l1 := low40 x1
  have l2 := low32 x2
  have l3 := low8 x3
  have l4 := low32 x4
  obtain ⟨at_, hat⟩ : ∃ a, x0 % 4294967296 = a := ⟨_, rfl⟩
  obtain ⟨t, ht⟩ : ∃ t, x1 % 1099511627776 = t := ⟨_, rfl⟩
  obtain ⟨co, hco⟩ : ∃ t, x2 % 4294967296 = t := ⟨_, rfl⟩
  obtain ⟨r, hr⟩ : ∃ r, 2199023255552 + (x3 % 256 - 128) * 2199023 = r := ⟨_, rfl⟩
  obtain ⟨la, hla⟩ : ∃ a, x4 % 4294967296 = a := ⟨_, rfl⟩
  have a0 : 0 ≤ at_ := by omega
  have a1 : at_ ≤ 4294967295 := by omega
  have t0 : 0 ≤ t := by omega
  have t1 : t ≤ 1099511627775 := by omega
  have c0 : 0 ≤ co := by omega
  have c1 : co ≤ 4294967295 := by omega
  have z0 : 0 ≤ la := by omega
  have z1 : la ≤ 4294967295 := by omega
  have r0 : 2198741780608 ≤ r := by omega
  have r1 : r ≤ 2199302531473 := by omega
  rw [hat] at l0
  rw [ht] at l1
  rw [hco] at l2
  rw [hla] at l4
  obtain ⟨now, hnow⟩ : ∃ n, at_ + la = n := ⟨_, rfl⟩
  have e1 : wrap64 (x3 % 256 - 128) = x3 % 256 - 128 := by unfold wrap64; omega
  have e2 : wrap64 ((x3 % 256 - 128) * 2199023) = (x3 % 256 - 128) * 2199023 := by unfold wrap64; omega
  have e3 : wrap64 (2199023255552 + (x3 % 256 - 128) * 2199023) = r := by unfold wrap64; omega
  have e4 : wrap64 (at_ + la) = now := by unfold wrap64; omega
  obtain ⟨g, hg⟩ : ∃ g, rV r la 2199023255552 = g := ⟨_, rfl⟩
  obtain ⟨g1, g2, g3⟩ := goes_on r0 r1 z0 (by omega)
  rw [hg] at g2 g3
  obtain ⟨u, hu⟩ : ∃ u, t + co = u := ⟨_, rfl⟩
  obtain ⟨x, hx⟩ : ∃ x, u + g = x := ⟨_, rfl⟩
  have e5 : wrap64 (t + co) = u := by unfold wrap64; omega
  have ir : In64 r := ⟨by omega, by omega⟩
  have hA1 : AtOk (CS.heard 2 1 9 at_ u r) now g x := ⟨⟨by omega, by omega⟩, ⟨by show -9223372036854775808 ≤ at_; omega, by show at_ < 9223372036854775808; omega⟩, ⟨by show -9223372036854775808 ≤ now - at_; omega, by show now - at_ < 9223372036854775808; omega⟩, ir, by show rE r (now - at_) 2199023255552 = 0; rw [show now - at_ = la by omega]; exact g1, by show rV r (now - at_) 2199023255552 = g; rw [show now - at_ = la by omega]; exact hg, ⟨by omega, by omega⟩, ⟨by show -9223372036854775808 ≤ u; omega, by show u < 9223372036854775808; omega⟩, ⟨by omega, by omega⟩, hx⟩
  have bz := by_zero (r := r) (by omega)
  have hA2 : AtOk (CS.heard 2 7 8 now x r) now 0 x := ⟨⟨by omega, by omega⟩, ⟨by show -9223372036854775808 ≤ now; omega, by show now < 9223372036854775808; omega⟩, ⟨by show -9223372036854775808 ≤ now - now; omega, by show now - now < 9223372036854775808; omega⟩, ir, by show rE r (now - now) 2199023255552 = 0; rw [Int.sub_self]; exact bz.1, by show rV r (now - now) 2199023255552 = 0; rw [Int.sub_self]; exact bz.2, in64_0, ⟨by show -9223372036854775808 ≤ x; omega, by show x < 9223372036854775808; omega⟩, ⟨by omega, by omega⟩, by show x + 0 = x; omega⟩
  have HF1 := Lib.hid (fol_zero (dom := 2) (q := 1) (src := 9) (port := 0) r0 r1 t0 t1 co c0 c1 hu)
  have HF2 : Hid (FolOk (FolM 2 7 8 1 g u r) 0 2199023255552 r 0 x) := Lib.hid (by
    have m := mul_one' ir
    exact ⟨ir, ⟨by decide, by decide⟩, m.1, m.2, ⟨by omega, by omega⟩, ⟨⟨by show -9223372036854775808 ≤ g; omega, by show g < 9223372036854775808; omega⟩, ⟨by show -9223372036854775808 ≤ u; omega, by show u < 9223372036854775808; omega⟩, ⟨by show -9223372036854775808 ≤ u + g; omega, by show u + g < 9223372036854775808; omega⟩, in64_0, ir, bz.1, bz.2, in64_0, ⟨by omega, by omega⟩, by show u + g + 0 = x; omega⟩⟩)
  have HD1 := Lib.hid (hd_of (dom := 2) (q := 1) (src := 9) (port := 0) (by decide))
  have HD2 := Lib.hid (hd_of (dom := 2) (q := 7) (src := 8) (port := 0) (by decide))
  have HD3 := Lib.hid (hd_of (dom := 2) (q := 7) (src := 8) (port := 1) (by decide))
  have H1 := Lib.hid hA1
  have H2 := Lib.hid hA2
  have HT : Hid (∀ W b, Ck W b (CS.heard 2 1 9 at_ u r) → Calls Try.prog 34 #[.pointer (some ⟨b, 0, none⟩), .int .i64 7, .int .i64 8, .int .i64 1, .int .i64 now] W fun e w' => e = .returned (.tuple #[.agg #[.int .i64 8, .int .i64 2, .int .i64 7, .int .i64 8, .int .i64 1, .int .i64 g, .int .i64 u, .int .i64 0, .int .i64 0, .int .i64 r, .int .i64 0, .int .i64 0, .int .i64 0, .int .i64 0, .int .i64 0, .slice none 0 0], .bool true]) ∧ Below W.heap.size W w') := Lib.hid (fun W b h => by
    have key := tell_other h rfl 7 8 1 (x := now) (y := x) HD3.out ⟨by omega, by omega⟩ ir ⟨by show -9223372036854775808 ≤ u; omega, by show u < 9223372036854775808; omega⟩ ⟨by show -9223372036854775808 ≤ x - u; omega, by show x - u < 9223372036854775808; omega⟩ (fun W h => at_ok h rfl hA1)
    have e : x - (CS.heard 2 1 9 at_ u r).there = g := by show x - u = g; omega
    rw [e] at key
    exact key)
  have HR1 : Hid (∀ W b, Ck W b (CS.heard 2 1 9 at_ u r) → Calls Try.prog 39 #[.pointer (some ⟨b, 0, none⟩)] W fun e w' => e = .returned (.int .i64 r) ∧ w' = W) := Lib.hid (fun W b h => ratec_any h)
  have HR2 : Hid (∀ W b, Ck W b (CS.heard 2 7 8 now x r) → Calls Try.prog 39 #[.pointer (some ⟨b, 0, none⟩)] W fun e w' => e = .returned (.int .i64 r) ∧ w' = W) := Lib.hid (fun W b h => ratec_any h)
  clear hat ht hco hla a0 a1 t0 t1 c0 c1 z0 z1 r0 r1 hnow hg g1 g2 g3 hx hu hA1 hA2 ir bz
  go_enter Try.func10, Try.ntmps10
  go_wp2_with (first
    | (go_at_call 29; (with_reducible refine (HH.out _).mono ?_); rintro e w0 ⟨rfl, hb⟩; have HB0 := Lib.hid hb; clear hb)
    | (go_at_call 32; (with_reducible refine (HN.out w0).mono ?_); rintro e w1 ⟨b, rfl, hlo, hc, hb⟩; have HC1 := Lib.hid hc; have HB1 := Lib.hid (bTr HB0.out hb); have HL := Lib.hid (Nat.le_trans HB0.out.size hlo); clear hc hb hlo)
    | (go_at_call 32; (with_reducible refine (HN.out w1).mono ?_); rintro e w2 ⟨d, rfl, hlo, hc, hb⟩; have HC2 := Lib.hid (HC1.out.below hb); have HX2 := Lib.hid hc; have HB2 := Lib.hid (bTr HB1.out hb); have HL2 := Lib.hid (Nat.le_trans HB1.out.size hlo); have HNE := Lib.hid (show d ≠ b from (by have := HC1.out.lt; omega)); clear hc hb hlo)
    | ((with_reducible refine at_b4 (.const (.int .i64 0)) (.const (.int .i64 2)) (.const (.int .i64 1)) (.const (.int .i64 9)) ?_); refine wpList_buildGG (by rfl) _ _ rfl (MC (SynM 2 1 9 0) (.slice none 0 0)) (by simp only [List.map_toArray, List.map_cons, List.map_nil]; exact Try.bSyn4 2 1 9) ?_)
    | (go_at_call 35; (with_reducible refine (new_sync HC2.out HD1.out).mono ?_); rintro e w3 ⟨rfl, hc, hb⟩; have HC3 := Lib.hid hc; have HX3 := Lib.hid (HX2.out.but hb HNE.out); have HB3 := Lib.hid (hb.into HB2.out HL.out); clear hc hb)
    | ((with_reducible refine at_f7 _ _ _ _ _ _ _ ?_); refine wpList_buildGG (by rfl) _ _ rfl (MC (FolM 2 1 9 0 co t r) (.slice none 0 0)) (by simp only [List.map_toArray, List.map_cons, List.map_nil]; exact Try.bFol7 2 1 9 co t r) ?_)
    | (go_at_call 37; (with_reducible refine (new_follow HC3.out HD1.out HF1.out).mono ?_); rintro e w4 ⟨rfl, hc, hb⟩; have HC4 := Lib.hid hc; have HX4 := Lib.hid (HX3.out.but hb HNE.out); have HB4 := Lib.hid (hb.into HB3.out HL.out); clear hc hb)
    | (go_at_call 34; (with_reducible refine (HT.out _ _ HC4.out).mono ?_); rintro e w5 ⟨rfl, hb⟩; have HC5 := Lib.hid (fun o => (HC4.out.below hb).alloc o); have HX5 := Lib.hid (fun o => (HX4.out.below hb).alloc o); have HB5 := Lib.hid (fun o => bAl (bTr HB4.out hb) o); have HDL := Lib.hid (HX4.out.below hb).lt; clear hb)
    | ((with_reducible refine at_storeM ?_); refine wpList_storeNM rfl _ _ rfl _ rfl #[.int .i64 8, .int .i64 2, .int .i64 7, .int .i64 8, .int .i64 1, .int .i64 g, .int .i64 u, .int .i64 0, .int .i64 0, .int .i64 r, .int .i64 0, .int .i64 0, .int .i64 0, .int .i64 0, .int .i64 0, .slice none 0 0] _ rfl rfl (by simp [Value.oneCell']) rfl rfl ?_)
    | ((with_reducible refine at_b4 (.const (.int .i64 0)) (.const (.int .i64 2)) (.const (.int .i64 7)) (.const (.int .i64 8)) ?_); refine wpList_buildGG (by rfl) _ _ rfl (MC (SynM 2 7 8 0) (.slice none 0 0)) (by simp only [List.map_toArray, List.map_cons, List.map_nil]; exact Try.bSyn4 2 7 8) ?_)
    | (go_at_call 35; (with_reducible refine (new_sync (HX5.out _) HD2.out).mono ?_); rintro e w6 ⟨rfl, hc, hb⟩; have HX6 := Lib.hid hc; have HC6 := Lib.hid ((HC5.out _).but hb (Ne.symm HNE.out)); have HB6 := Lib.hid (hb.into (HB5.out _) HL2.out); have hr6 := (hb.block w5.heap.size (by simp) (by have := HDL.out; omega)).trans (heap_alloc_new w5 _); have HR6 := Lib.hid hr6; clear hc hb hr6)
    | ((with_reducible refine at_loadMG ?_); refine wpList_loadMG (by rfl) _ rfl w5.heap.size rfl (MC (FolM 2 7 8 1 g u r) (.slice none 0 0)) _ HR6.out rfl ?_)
    | (go_at_call 37; (with_reducible refine (new_follow HX6.out HD3.out HF2.out).mono ?_); rintro e w7 ⟨rfl, hc, hb⟩; have HX7 := Lib.hid hc; have HC7 := Lib.hid (HC6.out.but hb (Ne.symm HNE.out)); have HB7 := Lib.hid (hb.into HB6.out HL2.out); have hr7 := (hb.block w5.heap.size (lt_of_heap HR6.out) (by have := HDL.out; omega)).trans HR6.out; have HR7 := Lib.hid hr7; clear hc hb hr7)
    | (go_at_call 38; (with_reducible refine (at_ok HC7.out rfl H1.out).mono ?_); rintro e w8 ⟨rfl, hb⟩; have HC8 := Lib.hid (HC7.out.below hb); have HX8 := Lib.hid (HX7.out.below hb); have HB8 := Lib.hid (bTr HB7.out hb); have HR8 := Lib.hid ((hb.block _ (lt_of_heap HR7.out)).trans HR7.out); clear hb)
    | (go_at_call 38; (with_reducible refine (at_ok HX8.out rfl H2.out).mono ?_); rintro e w9 ⟨rfl, hb⟩; have HC9 := Lib.hid (HC8.out.below hb); have HX9 := Lib.hid (HX8.out.below hb); have HB9 := Lib.hid (bTr HB8.out hb); have hr9 := (hb.block _ (lt_of_heap HR8.out)).trans HR8.out; have m6 : w9.cell? ⟨w5.heap.size, 6, none⟩ = some (.int .i64 u) := (cell_of_row _ _ _ _ _ _ hr9); clear hb hr9)
    | (go_at_call 39; (with_reducible refine (HR2.out _ _ HX9.out).mono ?_); rintro e w10 ⟨rfl, rfl⟩)
    | (go_at_call 39; (with_reducible refine (HR1.out _ _ HC9.out).mono ?_); rintro e w10 ⟨rfl, rfl⟩))
  go_ret
  exact ⟨rfl, HB9.out⟩

theorem syncTells_holds : Rows.SyncTellsSaid := syncTells_of (fun x0 x1 x2 x3 x4 w _ _ _ _ _ => stells_any x0 x1 x2 x3 x4 w)

end Go.Proofs.Ytnfoimkiihfalaa
