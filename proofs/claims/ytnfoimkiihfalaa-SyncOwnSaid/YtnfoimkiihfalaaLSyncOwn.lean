/- For all four ints SyncOwn answers true: who becomes the domain's best clock goes on from the time that it was told, at its own rate, and tells that. No condition. -/
import Derived.Test.YtnfoimkiihfalaaFSyncOwn
import Derived.Test.YtnfoimkiihfalaaSyMath
import Derived.Test.YtnfoimkiihfalaaLow
namespace Go.Proofs.Ytnfoimkiihfalaa
open Go.RowKit Go.Joins

theorem low32 (n : Int) : bits .and .i64 n 4294967295 = n % 4294967296 := and_low n 32 (by omega)
theorem low40 (n : Int) : bits .and .i64 n 1099511627775 = n % 1099511627776 := and_low n 40 (by omega)
theorem low8 (n : Int) : bits .and .i64 n 255 = n % 256 := and_low n 8 (by omega)
theorem fol_zero {dom q src port t r : Int} (hr0 : 2198741780608 ≤ r) (hr1 : r ≤ 2199302531473) (t0 : 0 ≤ t) (t1 : t ≤ 1099511627775) (corr : Int) (c0 : 0 ≤ corr) (c1 : corr ≤ 4294967295) {z : Int} (hz : t + corr = z) : FolOk (FolM dom q src port corr t r) 0 2199023255552 r 0 z := by
  have i1 : In64 r := ⟨by omega, by omega⟩
  have m := mul_one' i1
  have b := by_zero (r := r) (by omega)
  exact ⟨i1, ⟨by decide, by decide⟩, m.1, m.2, ⟨by omega, by omega⟩, ⟨⟨by show -9223372036854775808 ≤ corr; omega, by show corr < 9223372036854775808; omega⟩, ⟨by show -9223372036854775808 ≤ t; omega, by show t < 9223372036854775808; omega⟩, ⟨by show -9223372036854775808 ≤ t + corr; omega, by show t + corr < 9223372036854775808; omega⟩, in64_0, i1, b.1, b.2, in64_0, ⟨by omega, by omega⟩, by show t + corr + 0 = z; omega⟩⟩
/-- How far the domain's time goes while the own clock goes so far. -/
theorem goes_on {r x : Int} (hr0 : 2198741780608 ≤ r) (hr1 : r ≤ 2199302531473) (h0 : 0 ≤ x) (h1 : x ≤ 4611686018427) : rE r x 2199023255552 = 0 ∧ 0 ≤ rV r x 2199023255552 ∧ rV r x 2199023255552 ≤ 2 * x + 1 := by
  have b1 : r * x ≤ 2199302531473 * x := Int.mul_le_mul_of_nonneg_right hr1 h0
  obtain ⟨e, q0, q1, q2⟩ := rv_near (a := r) (b := x) (c := 2199023255552) (by omega) h0 (by decide) (by omega)
  refine ⟨e, q0, ?_⟩
  generalize rV r x 2199023255552 = q at *
  generalize r * x = z at *
  omega
set_option maxRecDepth 20000 in
set_option maxHeartbeats 4000000 in
theorem sown_any (x0 x1 x2 x3 : Int) (w : World) : Calls Try.prog 9 #[.int .i64 x0, .int .i64 x1, .int .i64 x2, .int .i64 x3] w fun e w' => e = .returned (.bool true) ∧ Below w.heap.size w w' := by
  have HH := Lib.hid (fun W => headS_ret W)
  have HN := Lib.hid (fun W => newc_any 0 W)
  have l0 := low32 x0
  have l1 := low40 x1
  have l2 := low8 x2
  have l3 := low32 x3
  obtain ⟨at_, hat⟩ : ∃ a, x0 % 4294967296 = a := ⟨_, rfl⟩
  obtain ⟨t, ht⟩ : ∃ t, x1 % 1099511627776 = t := ⟨_, rfl⟩
  obtain ⟨r, hr⟩ : ∃ r, 2199023255552 + (x2 % 256 - 128) * 2199023 = r := ⟨_, rfl⟩
  obtain ⟨la, hla⟩ : ∃ a, x3 % 4294967296 = a := ⟨_, rfl⟩
  have a0 : 0 ≤ at_ := by omega
  have a1 : at_ ≤ 4294967295 := by omega
  have t0 : 0 ≤ t := by omega
  have t1 : t ≤ 1099511627775 := by omega
  have z0 : 0 ≤ la := by omega
  have z1 : la ≤ 4294967295 := by omega
  have r0 : 2198741780608 ≤ r := by omega
  have r1 : r ≤ 2199302531473 := by omega
  rw [hat] at l0
  rw [ht] at l1
  rw [hla] at l3
  obtain ⟨now, hnow⟩ : ∃ n, at_ + 1073741824 = n := ⟨_, rfl⟩
  have e1 : wrap64 (x2 % 256 - 128) = x2 % 256 - 128 := by unfold wrap64; omega
  have e2 : wrap64 ((x2 % 256 - 128) * 2199023) = (x2 % 256 - 128) * 2199023 := by unfold wrap64; omega
  have e3 : wrap64 (2199023255552 + (x2 % 256 - 128) * 2199023) = r := by unfold wrap64; omega
  have e4 : wrap64 (at_ + 1073741824) = now := by unfold wrap64; omega
  have e5 : wrap64 (now + la) = now + la := by unfold wrap64; omega
  have e6 : wrap64 (now + 1125899906842624) = now + 1125899906842624 := by unfold wrap64; omega
  obtain ⟨g, hg⟩ : ∃ g, rV r 1073741824 2199023255552 = g := ⟨_, rfl⟩
  obtain ⟨g1, g2, g3⟩ := goes_on r0 r1 (show (0 : Int) ≤ 1073741824 by decide) (by decide)
  rw [hg] at g2 g3
  obtain ⟨x, hx⟩ : ∃ x, t + g = x := ⟨_, rfl⟩
  obtain ⟨y, hy⟩ : ∃ y, x + la = y := ⟨_, rfl⟩
  have e7 : wrap64 (x + la) = y := by unfold wrap64; omega
  have hA1 : AtOk (CS.heard 0 1 9 at_ t r) now g x := ⟨⟨by omega, by omega⟩, ⟨by show -9223372036854775808 ≤ at_; omega, by show at_ < 9223372036854775808; omega⟩, ⟨by show -9223372036854775808 ≤ now - at_; omega, by show now - at_ < 9223372036854775808; omega⟩, ⟨by show -9223372036854775808 ≤ r; omega, by show r < 9223372036854775808; omega⟩, by show rE r (now - at_) 2199023255552 = 0; rw [show now - at_ = 1073741824 by omega]; exact g1, by show rV r (now - at_) 2199023255552 = g; rw [show now - at_ = 1073741824 by omega]; exact hg, ⟨by omega, by omega⟩, ⟨by show -9223372036854775808 ≤ t; omega, by show t < 9223372036854775808; omega⟩, ⟨by omega, by omega⟩, hx⟩
  obtain ⟨s2, hs2⟩ : ∃ s2 : CS, s2 = { (CS.heard 0 1 9 at_ t r).knows now x (CS.heard 0 1 9 at_ t r).now with own := true, opn := false } := ⟨_, rfl⟩
  have i3 : In64 la := ⟨by omega, by omega⟩
  have ob := one_by i3
  have hA2 : AtOk s2 (now + la) la y := by
    subst hs2
    exact ⟨⟨by omega, by omega⟩, ⟨by show -9223372036854775808 ≤ now; omega, by show now < 9223372036854775808; omega⟩, ⟨by show -9223372036854775808 ≤ now + la - now; omega, by show now + la - now < 9223372036854775808; omega⟩, ⟨by show (-9223372036854775808 : Int) ≤ 2199023255552; decide, by show (2199023255552 : Int) < 9223372036854775808; decide⟩, by show rE 2199023255552 (now + la - now) 2199023255552 = 0; rw [show now + la - now = la by omega]; exact ob.1, by show rV 2199023255552 (now + la - now) 2199023255552 = la; rw [show now + la - now = la by omega]; exact ob.2, i3, ⟨by show -9223372036854775808 ≤ x; omega, by show x < 9223372036854775808; omega⟩, ⟨by omega, by omega⟩, hy⟩
  have HF := Lib.hid (fol_zero (dom := 0) (q := 1) (src := 9) (port := 0) r0 r1 t0 t1 0 (by decide) (by decide) (z := t) (by omega))
  have HD := Lib.hid (hd_of (dom := 0) (q := 1) (src := 9) (port := 0) (by decide))
  have H1 := Lib.hid hA1
  have H2 := Lib.hid hA2
  have o2 : s2.own = true := by rw [hs2]
  have k2 : s2.known = true := by rw [hs2]; rfl
  have HT : Hid (∀ W b, Ck W b s2 → Calls Try.prog 34 #[.pointer (some ⟨b, 0, none⟩), .int .i64 3, .int .i64 4, .int .i64 5, .int .i64 (now + la)] W fun e w' => e = .returned (.tuple #[.agg #[.int .i64 8, .int .i64 s2.dom, .int .i64 3, .int .i64 4, .int .i64 5, .int .i64 0, .int .i64 y, .int .i64 0, .int .i64 0, .int .i64 2199023255552, .int .i64 0, .int .i64 0, .int .i64 0, .int .i64 0, .int .i64 0, .slice none 0 0], .bool true]) ∧ Below W.heap.size W w') := Lib.hid (fun W b h => tell_own h o2 3 4 5 (by rw [hs2]; exact (show Hd 0 3 4 5 from hd_of (by decide))) ⟨by omega, by omega⟩ (by rw [hs2]; exact ⟨by show -9223372036854775808 ≤ r; omega, by show r < 9223372036854775808; omega⟩) (fun W h => at_ok h k2 hA2))
  have HR2 : Hid (∀ W b, Ck W b s2 → Calls Try.prog 39 #[.pointer (some ⟨b, 0, none⟩)] W fun e w' => e = .returned (.int .i64 2199023255552) ∧ w' = W) := Lib.hid (fun W b h => by
    have key := ratec_any h
    unfold CS.now at key
    rw [o2] at key
    exact key)
  have HR1 : Hid (∀ W b, Ck W b (CS.heard 0 1 9 at_ t r) → Calls Try.prog 39 #[.pointer (some ⟨b, 0, none⟩)] W fun e w' => e = .returned (.int .i64 r) ∧ w' = W) := Lib.hid (fun W b h => ratec_any h)
  have HO : Hid (∀ W b, Ck W b (CS.heard 0 1 9 at_ t r) → Calls Try.prog 33 #[.pointer (some ⟨b, 0, none⟩), .bool true, .int .i64 now] W fun e w' => e = .returned (.tuple #[]) ∧ LeaveC b W s2 w') := Lib.hid (fun W b h => by
    have key := own_known h rfl rfl hA1
    rw [hs2]
    exact key)
  have HOO := Lib.hid o2
  have HKK := Lib.hid k2
  clear hat ht hla a0 a1 t0 t1 z0 z1 r0 r1 hnow hg g1 g2 g3 hx hy hA1 hA2 i3 ob o2 k2 hs2
  go_enter Try.func9, Try.ntmps9
  go_wp2_with (first
    | (go_at_call 29; (with_reducible refine (HH.out _).mono ?_); rintro e w0 ⟨rfl, hb⟩; have HB0 := Lib.hid hb; clear hb)
    | (go_at_call 32; (with_reducible refine (HN.out _).mono ?_); rintro e w1 ⟨b, rfl, hlo, hc, hb⟩; have HC1 := Lib.hid hc; have HB1 := Lib.hid (bTr HB0.out hb); have HL := Lib.hid (Nat.le_trans HB0.out.size hlo); clear hc hb hlo)
    | ((with_reducible refine at_b3 (.const (.int .i64 0)) (.const (.int .i64 1)) (.const (.int .i64 9)) ?_); refine wpList_buildGG (by rfl) _ _ rfl (MC (SynM 0 1 9 0) (.slice none 0 0)) (by simp only [List.map_toArray, List.map_cons, List.map_nil]; exact Try.bSyn3 1 9) ?_)
    | (go_at_call 35; (with_reducible refine (new_sync HC1.out HD.out).mono ?_); rintro e w2 ⟨rfl, hc, hb⟩; have HC2 := Lib.hid hc; have HB2 := Lib.hid (hb.into HB1.out HL.out); clear hc hb)
    | ((with_reducible refine at_f5 _ _ _ _ _ ?_); refine wpList_buildGG (by rfl) _ _ rfl (MC (FolM 0 1 9 0 0 t r) (.slice none 0 0)) (by simp only [List.map_toArray, List.map_cons, List.map_nil]; exact Try.bFol5 1 9 t r) ?_)
    | (go_at_call 37; (with_reducible refine (new_follow HC2.out HD.out HF.out).mono ?_); rintro e w3 ⟨rfl, hc, hb⟩; have HC3 := Lib.hid hc; have HB3 := Lib.hid (hb.into HB2.out HL.out); clear hc hb)
    | (go_at_call 39; (with_reducible refine (HR1.out _ _ HC3.out).mono ?_); rintro e w4 ⟨rfl, rfl⟩)
    | (go_at_call 38; (with_reducible refine (at_ok HC3.out rfl H1.out).mono ?_); rintro e w5 ⟨rfl, hb⟩; have HC5 := Lib.hid (HC3.out.below hb); have HB5 := Lib.hid (bTr HB3.out hb); clear hb)
    | (go_at_call 33; (with_reducible refine (HO.out _ _ HC5.out).mono ?_); rintro e w6 ⟨rfl, hc, hb⟩; have HC6 := Lib.hid hc; have HB6 := Lib.hid (hb.into HB5.out HL.out); clear hc hb)
    | (go_at_call 38; (with_reducible refine (at_ok HC6.out HKK.out H2.out).mono ?_); rintro e w7 ⟨rfl, hb⟩; have HC7 := Lib.hid (HC6.out.below hb); have HB7 := Lib.hid (bTr HB6.out hb); clear hb)
    | (go_at_call 34; (with_reducible refine (HT.out _ _ HC7.out).mono ?_); rintro e w8 ⟨rfl, hb⟩; have HC8 := Lib.hid (fun o => (HC7.out.below hb).alloc o); have HB8 := Lib.hid (fun o => bAl (bTr HB7.out hb) o); clear hb)
    | ((with_reducible refine at_storeM ?_); refine wpList_storeNM rfl _ _ rfl _ rfl #[.int .i64 8, .int .i64 s2.dom, .int .i64 3, .int .i64 4, .int .i64 5, .int .i64 0, .int .i64 y, .int .i64 0, .int .i64 0, .int .i64 2199023255552, .int .i64 0, .int .i64 0, .int .i64 0, .int .i64 0, .int .i64 0, .slice none 0 0] _ rfl rfl (by simp [Value.oneCell']) rfl rfl ?_)
    | (go_at_call 39; (with_reducible refine (HR2.out _ _ (HC8.out _)).mono ?_); rintro e w9 ⟨rfl, rfl⟩)
    | (go_at_call 40; (with_reducible refine (fresh_own (HC8.out _) HOO.out _ _).mono ?_); rintro e w9 ⟨rfl, rfl⟩)
    | ((with_reducible refine at_b3 (.const (.int .i64 0)) (.const (.int .i64 2)) (.const (.int .i64 9)) ?_); refine wpList_buildGG (by rfl) _ _ rfl (MC (SynM 0 2 9 0) (.slice none 0 0)) (by simp only [List.map_toArray, List.map_cons, List.map_nil]; exact Try.bSyn3 2 9) ?_)
    | (go_at_call 35; (with_reducible refine (sync_own (HC8.out _) HOO.out _ _ _).mono ?_); rintro e w10 ⟨rfl, hb⟩; have HB9 := Lib.hid (bTr (HB8.out _) hb); clear hb))
  go_ret
  exact ⟨rfl, HB9.out⟩

theorem syncOwn_holds : Rows.SyncOwnSaid := syncOwn_of (fun x0 x1 x2 x3 w _ _ _ _ => sown_any x0 x1 x2 x3 w)

end Go.Proofs.Ytnfoimkiihfalaa
