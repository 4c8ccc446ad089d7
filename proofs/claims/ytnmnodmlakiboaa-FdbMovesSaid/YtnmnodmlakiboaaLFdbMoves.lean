/- For every place, every slice of ints and every int FdbMoves answers true: an address is where it was seen last; once it is old it is everywhere again. No condition. -/
import Derived.Test.YtnmnodmlakiboaaFFdbMoves
import Derived.Test.YtnmnodmlakiboaaFdAge
namespace Go.Proofs.Ytnmnodmlakiboaa
open Go.RowKit Go.Joins Go.Maps Go.MapKept Go.ChangeMaps Go.WideMaps

theorem and_lowF (n : Int) (k : Nat) (hk : k < 63) : bits .and .i64 n ((2 ^ k - 1 : Nat) : Int) = n % ((2 ^ k : Nat) : Int) := by
  have hp : 2 ^ k ≤ 2 ^ 62 := Nat.pow_le_pow_right (by omega) (by omega)
  have hpos := Nat.two_pow_pos k
  have hm : (BitVec.ofInt 64 ((2 ^ k - 1 : Nat) : Int)).toNat = 2 ^ k - 1 := by
    rw [BitVec.toNat_ofInt]; omega
  have hd : (2 ^ k : Nat) ∣ 2 ^ 64 := Nat.pow_dvd_pow 2 (by omega)
  have key : (BitVec.ofInt 64 n &&& BitVec.ofInt 64 ((2 ^ k - 1 : Nat) : Int)).toNat = (n % ((2 ^ 64 : Nat) : Int)).toNat % 2 ^ k := by
    rw [BitVec.toNat_and, BitVec.toNat_ofInt, hm, Nat.and_two_pow_sub_one_eq_mod]
  show IntKind.i64.wrap ((BitVec.ofInt 64 n &&& BitVec.ofInt 64 ((2 ^ k - 1 : Nat) : Int)).toNat : Nat) = _
  rw [key, IntKind.wrap_i64]
  have e : (((n % ((2 ^ 64 : Nat) : Int)).toNat % 2 ^ k : Nat) : Int) = n % ((2 ^ k : Nat) : Int) := by
    rw [Int.natCast_emod, Int.toNat_of_nonneg (Int.emod_nonneg _ (by simp))]
    exact Int.emod_emod_of_dvd _ (Int.natCast_dvd_natCast.2 hd)
  rw [e]
  have h1 := Int.emod_nonneg n (show ((2 ^ k : Nat) : Int) ≠ 0 by omega)
  have h2 := Int.emod_lt_of_pos n (show (0 : Int) < ((2 ^ k : Nat) : Int) by omega)
  generalize n % ((2 ^ k : Nat) : Int) = z at *
  omega
/-- What was seen, after k of them. -/
def mvE (p : Pl) (last : Int) (k : Nat) : List (Pl × (Int × Int)) := if k = 0 then [] else [(p, (last, (k : Int) - 1))]
def mvS (F : Nat → Int) (p : Pl) (last : Int) (k : Nat) : TS := ⟨6, 9, F, putL [] p.1 (63, 0), [], mvE p last k⟩
theorem mvE_put (p : Pl) (l0 last : Int) (k : Nat) : putL (mvE p l0 k) p (last, (k : Int)) = mvE p last (k + 1) := by
  have e : mvE p last (k + 1) = [(p, (last, (k : Int)))] := by
    unfold mvE
    rw [if_neg (by omega), show ((k + 1 : Nat) : Int) - 1 = (k : Int) by omega]
  rw [e]
  unfold mvE putL
  split <;> simp [delL]
theorem mvS_ok (F : Nat → Int) (p : Pl) (last : Int) (k : Nat) (h : k ≠ 0 → 0 ≤ last ∧ last < 6) : OkE (mvS F p last k) := by
  refine ⟨fun x hx => ?_, fun x hx => by simp [mvS] at hx⟩
  unfold mvS mvE at hx
  by_cases hk : k = 0
  · simp [hk] at hx
  · simp [hk] at hx
    subst hx
    have := h hk
    exact ⟨this.1, by show last < 8; omega⟩
theorem mvS_where0 (F : Nat → Int) (p : Pl) (last : Int) : whereV (mvS F p last 0) p = 0 := by
  unfold whereV mvS mvE lookL
  rfl
theorem mvS_where (F : Nat → Int) (p : Pl) (l : Nat) (k : Nat) (hk : k ≠ 0) : whereV (mvS F p (l : Int) k) p = ((2 ^ l : Nat) : Int) := by
  unfold whereV mvS mvE lookL
  simp [hk]
theorem mvS_vlan (F : Nat → Int) (p : Pl) (last : Int) (k : Nat) : vlanV (mvS F p last k) p.1 = (63, 0) := by
  unfold vlanV mvS
  show (lookL (putL [] p.1 (63, 0)) p.1).getD (0, 0) = _
  rw [lookL_put_same]; rfl
theorem low8 (n : Int) : bits .and .i64 n 255 = n % 256 := and_lowF n 8 (by omega)
theorem low10F (n : Int) : bits .and .i64 n 1023 = n % 1024 := and_lowF n 10 (by omega)
theorem mv_out0 (F : Nat → Int) (q : Pl) (last : Int) (k : Nat) (hk : k = 0) (a : Nat) : outP (mvS F q last k) a q = bits .andNot .i64 63 ((2 ^ a : Nat) : Int) := by
  subst hk
  unfold outP
  rw [mvS_where0, if_pos rfl, mvS_vlan]
theorem mv_out (F : Nat → Int) (q : Pl) (l : Nat) (k : Nat) (hk : k ≠ 0) (a : Nat) : outP (mvS F q (l : Int) k) a q = bits .and .i64 (bits .andNot .i64 63 ((2 ^ a : Nat) : Int)) ((2 ^ l : Nat) : Int) := by
  have hp := Nat.two_pow_pos l
  unfold outP
  rw [mvS_where F q l k hk, if_neg (by omega), mvS_vlan]
theorem mv_call {B m : Nat} {W : World} {b : TB} {F : Nat → Int} {q : Pl} {last : Int} {k : Nat} {P : Value} (h : Tab B W b m (mvS F q last k)) (hP : PV q = P) (hq : q.Good) (hE : OkE (mvS F q last k)) (a : Nat) (ha : a < 6) (A R : Int) (hA : (a : Int) = A) (hR : outP (mvS F q last k) a q = R) (h0 : bits .and .i64 R 0 = 0) :
    Calls Try.prog 13 #[.pointer (some ⟨b.t, 0, none⟩), .int .i64 A, P] W fun e w' => e = .returned (.tuple #[.int .i64 R, .int .i64 0]) ∧ Below W.heap.size W w' := by
  have l := out_any h a ha q hq hE
  rw [mvS_vlan, hR, h0, hP, hA] at l
  exact l
theorem mv_age {B k : Nat} {W : World} {b : TB} {F : Nat → Int} {q : Pl} {last : Int} (h : Tab B W b (k + 1) (mvS F q last k)) (hk : k ≤ 30) :
    Calls Try.prog 16 #[.pointer (some ⟨b.t, 0, none⟩), .int .i64 1048576] W fun e w' => e = .returned (.int .i64 (if k = 0 then 0 else 1)) ∧ Tab B w' b (k + 1) (mvS F q last 0) ∧ ButB b.e W w' := by
  have l := age_any h (by omega) 1048576
  have e : (mvS F q last k).E.filter (fun e => !decide (e.2.2 < 1048576)) = [] := by
    rw [List.filter_eq_nil_iff]
    intro y hy
    unfold mvS mvE at hy
    by_cases h0 : k = 0
    · simp [h0] at hy
    · simp [h0] at hy
      subst hy
      simp only [Bool.not_eq_true', Bool.not_eq_false', decide_eq_false_iff_not, Bool.not_eq_true, decide_eq_true_eq, Bool.not_eq_false]
      omega
  have e2 : (((mvS F q last k).E.length - ([] : List (Pl × (Int × Int))).length : Nat) : Int) = if k = 0 then 0 else 1 := by
    unfold mvS mvE
    by_cases h0 : k = 0 <;> simp [h0]
  rw [e, e2] at l
  exact l
theorem mv_len {B m : Nat} {W : World} {b : TB} {F : Nat → Int} {q : Pl} {last : Int} (h : Tab B W b m (mvS F q last 0)) (hm : m ≤ 1000000) :
    Calls Try.prog 15 #[.pointer (some ⟨b.t, 0, none⟩)] W fun e w' => e = .returned (.int .i64 0) ∧ Below W.heap.size W w' := len_any h hm
theorem and254 : ∀ n : Nat, n < 256 → bits .and .u8 (n : Int) 254 = ((n / 2 * 2 : Nat) : Int) := of_decide_eq_true (by kernel_rfl)
def MvRel (B : Nat) (b : TB) (F : Nat → Int) (q : Pl) (n : Nat) (w : World) (lv kv : Value) (wr : World) : Prop :=
  ∃ (k : Nat) (last : Int), lv = .int .i64 last ∧ kv = .int .i64 (k : Int) ∧ k ≤ n ∧ k ≤ 30 ∧ (k = 0 → last = -1) ∧ (k ≠ 0 → 0 ≤ last ∧ last < 6) ∧ HB B b (k + 1) (mvS F q last k) w w.heap.size q wr
def MvRel2 (B : Nat) (b : TB) (F : Nat → Int) (q : Pl) (last : Int) (k : Nat) (w : World) (av : Value) (wr : World) : Prop :=
  ∃ a : Nat, av = .int .i64 (a : Int) ∧ a ≤ 6 ∧ HB B b (k + 1) (mvS F q last k) w w.heap.size q wr
set_option maxRecDepth 20000 in
set_option maxHeartbeats 16000000 in
theorem moves_any (v : Int) (y0 y1 y2 y3 y4 y5 : Nat) (pa : Option Addr) (n c : Nat) (x : Int) (w : World) (h0 : y0 < 256) (h1 : y1 < 256) (h2 : y2 < 256) (h3 : y3 < 256) (h4 : y4 < 256) (h5 : y5 < 256) (ha : SlArg 1 Okint w (.slice pa n c) n) :
    Calls Try.prog 6 #[.agg #[.int .i64 v, .int .u8 (y0 : Int), .int .u8 (y1 : Int), .int .u8 (y2 : Int), .int .u8 (y3 : Int), .int .u8 (y4 : Int), .int .u8 (y5 : Int)], .slice pa n c, .int .i64 x] w fun e w' => e = .returned (.bool true) ∧ Below w.heap.size w w' := by
  have HH := Lib.hid head_ret
  have l1 := low10F v
  obtain ⟨V, hV⟩ : ∃ V, 1 + v % 1024 = V := ⟨_, rfl⟩
  have hV1 : 1 ≤ V ∧ V ≤ 1024 := by omega
  have l2 := and254 y0 h0
  obtain ⟨Y, hY⟩ : ∃ Y, y0 / 2 * 2 = Y := ⟨_, rfl⟩
  rw [hY] at l2
  obtain ⟨q, hq⟩ : ∃ q : Pl, q = (V, ⟨Y, y1, y2, y3, y4, y5⟩) := ⟨_, rfl⟩
  have hV64 : In64 V := ⟨by omega, by omega⟩
  have hY8 : Y < 256 := by omega
  have hqg : q.Good := by subst hq; exact ⟨hV64, ⟨hY8, h1, h2, h3, h4, h5⟩⟩
  have HQG := Lib.hid hqg
  have HQ := Lib.hid hq
  have HV := Lib.hid hV1
  have HPV : Hid (PV q = .agg #[.int .i64 V, .int .u8 (Y : Int), .int .u8 (y1 : Int), .int .u8 (y2 : Int), .int .u8 (y3 : Int), .int .u8 (y4 : Int), .int .u8 (y5 : Int)]) := Lib.hid (by rw [hq])
  have HY2 : Hid (Y % 2 = 0) := Lib.hid (by omega)
  have HA := Lib.hid ha
  have HN : Hid (∀ W, Calls Try.prog 10 #[.int .i64 6, .int .i64 9] W fun e w' => ∃ b F, e = .returned (.tuple #[.pointer (some ⟨b.t, 0, none⟩), .int .i64 0]) ∧ Tab W.heap.size w' b 0 ⟨6, 9, F, [], [], []⟩ ∧ Below W.heap.size W w') := Lib.hid (fun W => new_ok 6 9 W (by decide) (by decide) (by decide) (by decide))
  have HS : Hid (∀ B W b F, Tab B W b 0 ⟨6, 9, F, [], [], []⟩ → Calls Try.prog 19 #[.pointer (some ⟨b.t, 0, none⟩), .int .i64 V, .agg #[.int .i64 63, .int .i64 0]] W fun e w' => e = .returned (.int .i64 0) ∧ Tab B w' b 1 (mvS F q (-1) 0) ∧ ButB b.v W w') :=
    Lib.hid (fun B W b F h => by have k := setVlan_ok h (by decide) V 63 0 HV.out.1 (by have := HV.out.2; omega) (by decide) (by show (63 : Int) < ((2 ^ 6 : Nat) : Int); decide) (by kernel_rfl); rw [HQ.out]; exact k)
  have HPB : Hid ((w.alloc (.cells #[.int .i64 v, .int .u8 (y0 : Int), .int .u8 (y1 : Int), .int .u8 (y2 : Int), .int .u8 (y3 : Int), .int .u8 (y4 : Int), .int .u8 (y5 : Int)] 42)).heap[w.heap.size]? = some (.cells #[.int .i64 v, .int .u8 (y0 : Int), .int .u8 (y1 : Int), .int .u8 (y2 : Int), .int .u8 (y3 : Int), .int .u8 (y4 : Int), .int .u8 (y5 : Int)] 42)) := Lib.hid (heap_alloc_one w _)
  clear h0 h1 h2 h3 h4 h5 ha hq hqg hV1 hY hV64 hY8
  go_enter Try.func6, Try.ntmps6
  go_wp2_with (first
    | (go_at_call 9; (with_reducible refine (HH.out _).mono ?_); rintro e w1 ⟨rfl, hb⟩; have HB1 := Lib.hid (bTr (bAl (bRef w) _) hb); have q1 := (hb.block _ (lt_of_heap HPB.out)).trans HPB.out; have Q1 := Lib.hid q1; have f0 := frozen_of_row w1 w.heap.size 0 _ _ q1; have f1 := frozen_of_row w1 w.heap.size 1 _ _ q1; have k0 : w1.cell? ⟨w.heap.size, 0, none⟩ = some (.int .i64 v) := cell_of_row _ _ _ _ _ _ q1; have k1 : w1.cell? ⟨w.heap.size, 1, none⟩ = some (.int .u8 (y0 : Int)) := cell_of_row _ _ _ _ _ _ q1; clear hb q1)
    | (go_at_call 10; (with_reducible refine (HN.out _).mono ?_); rintro e w2 ⟨b, F, rfl, ht, hb⟩; have q2 := heap_setCell_same _ _ 1 _ _ (.int .u8 (Y : Int)) (heap_setCell_same _ _ 0 _ _ (.int .i64 V) Q1.out); have q3 := (hb.block _ (lt_of_heap q2)).trans q2; have HP0 : Hid (HB _ b 0 _ w w.heap.size q w2) := Lib.hid ⟨ht, by rw [HQ.out]; exact q3, bTr (bSet (bSet HB1.out ⟨w.heap.size, 0, none⟩ (Nat.le_refl _) _) ⟨w.heap.size, 1, none⟩ (Nat.le_refl _) _) hb⟩; have j0 : w2.cell? ⟨w.heap.size, 0, none⟩ = some (.int .i64 V) := cell_of_row _ _ _ _ _ _ q3; clear ht hb q2 q3)
    | (go_at_call 19; (with_reducible refine (HS.out _ _ b F HP0.out.tab).mono ?_); rintro e w3 ⟨rfl, ht, hb⟩; have HP1 := Lib.hid (HP0.out.but ht hb (HP0.out.tab.nbox HP0.out.box).1 (Nat.le_trans HB1.out.size (by have := HP0.out.tab.bv; simp only [World.size_setCell] at this; omega)) HP0.out.tab.lt.2.2.1); have HBE : Hid (w.heap.size ≤ b.e) := Lib.hid (Nat.le_trans HB1.out.size (by have := HP0.out.tab.be; simp only [World.size_setCell] at this; omega)); clear ht hb))
  go_loopw [9, 10] (fun lv kv wr => MvRel _ b F q n w lv kv wr) (fun _ kv _ => n - (intOf kv).toNat)
  case atStart => exact ⟨0, -1, rfl, rfl, by omega, by omega, fun _ => rfl, fun h => absurd rfl h, HP1.out⟩
  case round =>
    clear HP1 HP0 HB1 Q1 HN HS HPB k0 k1 f0 f1 j0
    obtain ⟨k, last, rfl, rfl, hk, hk30, hz, hnz, hp⟩ := hrel
    have HP := Lib.hid hp
    have HZ := Lib.hid hz
    have HNZ := Lib.hid hnz
    clear hp hz hnz
    by_cases hlt : k < n ∧ k < 30
    · obtain ⟨g1, g2⟩ := hlt
      have d1 : decide ((k : Int) < (n : Int)) = true := decide_eq_true (by omega)
      have d2 : decide ((k : Int) < 30) = true := decide_eq_true (by omega)
      obtain ⟨ab, o, G, rfl, hab, hG⟩ := SlArg.at HA.out (by omega)
      obtain ⟨⟨z0, hz, b0⟩, hlen, hc⟩ := hG k g1
      rw [hz] at hc
      have c0 := (HP.out.bel.cell (p := ⟨ab, o + k * 1 + 0, none⟩) hab).trans (hc 0 (by omega))
      rw [Nat.add_zero, Nat.mul_one] at c0
      simp only [List.getElem?_cons_zero] at c0
      clear hG hc hlen hz G hab
      have e1 := low8 z0
      obtain ⟨Z, hZ⟩ : ∃ Z, z0 % 256 = Z := ⟨_, rfl⟩
      rw [hZ] at e1
      have hZ6 : Z.tmod 6 = Z % 6 := Int.tmod_eq_emod_of_nonneg (by omega)
      obtain ⟨a, ha⟩ : ∃ a : Nat, Z.tmod 6 = (a : Int) := ⟨(Z.tmod 6).toNat, by omega⟩
      have ha6 : a < 6 := by omega
      rw [hZ6] at ha
      obtain ⟨p0, p1, p2, p3, p4, p5, p6, p7, p8, p9, p10, p11, -⟩ := HP.out.all
      have hr : whereV (mvS F q last k) q ≠ 0 ∨ (((mvS F q last k).S.length + (mvS F q last k).E.length : Nat) : Int) < (mvS F q last k).room := by
        refine .inr ?_
        show (((0 + (mvE q last k).length : Nat)) : Int) < 9
        unfold mvE
        split <;> simp
      have HL : Hid (∀ B W, Tab B W b (k + 1) (mvS F q last k) → Calls Try.prog 17 #[.pointer (some ⟨b.t, 0, none⟩), .agg #[.int .i64 V, .int .u8 (Y : Int), .int .u8 (y1 : Int), .int .u8 (y2 : Int), .int .u8 (y3 : Int), .int .u8 (y4 : Int), .int .u8 (y5 : Int)], .int .i64 (a : Int), .int .i64 (k : Int)] W fun e w' => e = .returned (.int .i64 0) ∧ Tab B w' b (k + 1 + 1) (mvS F q (a : Int) (k + 1)) ∧ ButB b.e W w') := Lib.hid (fun B W hW => by
        have l := learn_ok hW (by omega) q HQG.out (by rw [HQ.out]; exact HV.out.1) (by rw [HQ.out]; have := HV.out.2; show V ≤ 4094; omega) a (by show a < 6; exact ha6) (k : Int) (by rw [HQ.out]; exact HY2.out) (by rfl) (mvS_ok F q last k HNZ.out) hr
        have e : ({ (mvS F q last k) with E := putL (mvS F q last k).E q ((a : Int), (k : Int)) } : TS) = mvS F q (a : Int) (k + 1) := by
          show (⟨6, 9, F, putL [] q.1 (63, 0), [], putL (mvE q last k) q ((a : Int), (k : Int))⟩ : TS) = _
          rw [mvE_put]; rfl
        rw [e, HPV.out] at l
        exact l)
      rw [HQ.out] at p5 p6 p7 p8 p9 p10 p11
      clear hr hZ
      go_wp2_with (go_at_call 17; (with_reducible refine (HL.out _ _ HP.out.tab).mono ?_); rintro e w4 ⟨rfl, ht, hb⟩; have HP4 := Lib.hid (HP.out.but ht hb (HP.out.tab.nbox HP.out.box).2.2 HBE.out HP.out.tab.lt.2.2.2.2); clear ht hb)
      exact ⟨⟨k + 1, (a : Int), rfl, by go_num, by omega, by omega, fun h => absurd h (Nat.succ_ne_zero _), fun _ => ⟨by omega, by omega⟩, HP4.out⟩, by simp [intOf]; omega⟩
    · by_cases hkn : k < n
      · have d1 : decide ((k : Int) < (n : Int)) = true := decide_eq_true (by omega)
        have d2 : decide ((k : Int) < 30) = false := decide_eq_false (by omega)
        clear hlt
        go_wp2_with fail
        go_loopw [11] (fun av wr2 => MvRel2 _ b F q last k w av wr2) (fun av _ => 6 - (intOf av).toNat)
        case atStart => exact ⟨0, rfl, by omega, HP.out⟩
        case round =>
          obtain ⟨a, rfl, ha, hp⟩ := hrel
          have HP := Lib.hid hp
          clear hp
          by_cases ha6 : a = 6
          · subst ha6
            obtain ⟨p0, p1, p2, p3, p4, p5, p6, p7, p8, p9, p10, p11, -⟩ := HP.out.all
            rw [HQ.out] at p5 p6 p7 p8 p9 p10 p11
            have HO : Hid (∀ B W, Tab B W b (k + 1) (mvS F q last 0) → Calls Try.prog 13 #[.pointer (some ⟨b.t, 0, none⟩), .int .i64 0, .agg #[.int .i64 V, .int .u8 (Y : Int), .int .u8 (y1 : Int), .int .u8 (y2 : Int), .int .u8 (y3 : Int), .int .u8 (y4 : Int), .int .u8 (y5 : Int)]] W fun e w' => e = .returned (.tuple #[.int .i64 62, .int .i64 0]) ∧ Below W.heap.size W w') := Lib.hid (fun B W hW => mv_call hW HPV.out HQG.out (mvS_ok F q last 0 (fun h => absurd rfl h)) 0 (by decide) 0 62 (by rfl) (by rw [mv_out0 F q last 0 rfl 0]; kernel_rfl) (by kernel_rfl))
            have HLn : Hid (∀ B W, Tab B W b (k + 1) (mvS F q last 0) → Calls Try.prog 15 #[.pointer (some ⟨b.t, 0, none⟩)] W fun e w' => e = .returned (.int .i64 0) ∧ Below W.heap.size W w') := Lib.hid (fun B W hW => mv_len hW (by omega))
            by_cases hkz : k = 0
            · have hl := HZ.out hkz
              subst hl
              have HAg : Hid (∀ B W, Tab B W b (k + 1) (mvS F q (-1) k) → Calls Try.prog 16 #[.pointer (some ⟨b.t, 0, none⟩), .int .i64 1048576] W fun e w' => e = .returned (.int .i64 0) ∧ Tab B w' b (k + 1) (mvS F q (-1) 0) ∧ ButB b.e W w') := Lib.hid (fun B W hW => by have l := mv_age hW hk30; rw [if_pos hkz] at l; exact l)
              go_wp2_with (first
                | (go_at_call 16; (with_reducible refine (HAg.out _ _ HP.out.tab).mono ?_); rintro e w4 ⟨rfl, ht, hb⟩; have HP4 := Lib.hid (HP.out.but ht hb (HP.out.tab.nbox HP.out.box).2.2 HBE.out HP.out.tab.lt.2.2.2.2); obtain ⟨r0, r1, r2, r3, r4, r5, r6, r7, r8, r9, r10, r11, -⟩ := HP4.out.all; rw [HQ.out] at r5 r6 r7 r8 r9 r10 r11; clear ht hb)
                | (go_at_call 13; (with_reducible refine (HO.out _ _ HP4.out.tab).mono ?_); rintro e w5 ⟨rfl, hb⟩; have HP5 := Lib.hid (HP4.out.below hb); clear hb)
                | (go_at_call 15; (with_reducible refine (HLn.out _ _ HP5.out.tab).mono ?_); rintro e w6 ⟨rfl, hb⟩; have HP6 := Lib.hid (HP5.out.below hb); clear hb))
              go_ret
              exact ⟨rfl, HP6.out.bel⟩
            · have hl := HNZ.out hkz
              have d9 : decide (0 ≤ last) = true := decide_eq_true hl.1
              have HAg : Hid (∀ B W, Tab B W b (k + 1) (mvS F q last k) → Calls Try.prog 16 #[.pointer (some ⟨b.t, 0, none⟩), .int .i64 1048576] W fun e w' => e = .returned (.int .i64 1) ∧ Tab B w' b (k + 1) (mvS F q last 0) ∧ ButB b.e W w') := Lib.hid (fun B W hW => by have l := mv_age hW hk30; rw [if_neg hkz] at l; exact l)
              go_wp2_with (first
                | (go_at_call 16; (with_reducible refine (HAg.out _ _ HP.out.tab).mono ?_); rintro e w4 ⟨rfl, ht, hb⟩; have HP4 := Lib.hid (HP.out.but ht hb (HP.out.tab.nbox HP.out.box).2.2 HBE.out HP.out.tab.lt.2.2.2.2); obtain ⟨r0, r1, r2, r3, r4, r5, r6, r7, r8, r9, r10, r11, -⟩ := HP4.out.all; rw [HQ.out] at r5 r6 r7 r8 r9 r10 r11; clear ht hb)
                | (go_at_call 13; (with_reducible refine (HO.out _ _ HP4.out.tab).mono ?_); rintro e w5 ⟨rfl, hb⟩; have HP5 := Lib.hid (HP4.out.below hb); clear hb)
                | (go_at_call 15; (with_reducible refine (HLn.out _ _ HP5.out.tab).mono ?_); rintro e w6 ⟨rfl, hb⟩; have HP6 := Lib.hid (HP5.out.below hb); clear hb))
              go_ret
              exact ⟨rfl, HP6.out.bel⟩
          · have ha5 : a < 6 := by omega
            obtain ⟨p0, p1, p2, p3, p4, p5, p6, p7, p8, p9, p10, p11, -⟩ := HP.out.all
            rw [HQ.out] at p5 p6 p7 p8 p9 p10 p11
            clear ha ha6
            by_cases hk0 : k = 0
            · have hl := HZ.out hk0
              subst hl
              have HK0 := Lib.hid hk0
              clear hk0
              have : a = 0 ∨ a = 1 ∨ a = 2 ∨ a = 3 ∨ a = 4 ∨ a = 5 := by omega
              clear ha5
              rcases this with rfl | rfl | rfl | rfl | rfl | rfl
              · have HO : Hid (∀ B W, Tab B W b (k + 1) (mvS F q (-1) k) → Calls Try.prog 13 #[.pointer (some ⟨b.t, 0, none⟩), .int .i64 0, .agg #[.int .i64 V, .int .u8 (Y : Int), .int .u8 (y1 : Int), .int .u8 (y2 : Int), .int .u8 (y3 : Int), .int .u8 (y4 : Int), .int .u8 (y5 : Int)]] W fun e w' => e = .returned (.tuple #[.int .i64 62, .int .i64 0]) ∧ Below W.heap.size W w') := Lib.hid (fun B W hW => mv_call hW HPV.out HQG.out (mvS_ok F q (-1) k HNZ.out) 0 (by decide) 0 62 (by rfl) (by rw [mv_out0 F q (-1) k HK0.out 0]; kernel_rfl) (by kernel_rfl))
                have hb9 : bits .andNot .i64 63 1 = 62 := by kernel_rfl
                go_wp2_with (go_at_call 13; (with_reducible refine (HO.out _ _ HP.out.tab).mono ?_); rintro e w4 ⟨rfl, hb⟩; have HP4 := Lib.hid (HP.out.below hb); clear hb)
                exact ⟨⟨1, rfl, by omega, HP4.out⟩, by simp [intOf]⟩
              · have HO : Hid (∀ B W, Tab B W b (k + 1) (mvS F q (-1) k) → Calls Try.prog 13 #[.pointer (some ⟨b.t, 0, none⟩), .int .i64 1, .agg #[.int .i64 V, .int .u8 (Y : Int), .int .u8 (y1 : Int), .int .u8 (y2 : Int), .int .u8 (y3 : Int), .int .u8 (y4 : Int), .int .u8 (y5 : Int)]] W fun e w' => e = .returned (.tuple #[.int .i64 61, .int .i64 0]) ∧ Below W.heap.size W w') := Lib.hid (fun B W hW => mv_call hW HPV.out HQG.out (mvS_ok F q (-1) k HNZ.out) 1 (by decide) 1 61 (by rfl) (by rw [mv_out0 F q (-1) k HK0.out 1]; kernel_rfl) (by kernel_rfl))
                have hb9 : bits .andNot .i64 63 2 = 61 := by kernel_rfl
                go_wp2_with (go_at_call 13; (with_reducible refine (HO.out _ _ HP.out.tab).mono ?_); rintro e w4 ⟨rfl, hb⟩; have HP4 := Lib.hid (HP.out.below hb); clear hb)
                exact ⟨⟨2, rfl, by omega, HP4.out⟩, by simp [intOf]⟩
              · have HO : Hid (∀ B W, Tab B W b (k + 1) (mvS F q (-1) k) → Calls Try.prog 13 #[.pointer (some ⟨b.t, 0, none⟩), .int .i64 2, .agg #[.int .i64 V, .int .u8 (Y : Int), .int .u8 (y1 : Int), .int .u8 (y2 : Int), .int .u8 (y3 : Int), .int .u8 (y4 : Int), .int .u8 (y5 : Int)]] W fun e w' => e = .returned (.tuple #[.int .i64 59, .int .i64 0]) ∧ Below W.heap.size W w') := Lib.hid (fun B W hW => mv_call hW HPV.out HQG.out (mvS_ok F q (-1) k HNZ.out) 2 (by decide) 2 59 (by rfl) (by rw [mv_out0 F q (-1) k HK0.out 2]; kernel_rfl) (by kernel_rfl))
                have hb9 : bits .andNot .i64 63 4 = 59 := by kernel_rfl
                go_wp2_with (go_at_call 13; (with_reducible refine (HO.out _ _ HP.out.tab).mono ?_); rintro e w4 ⟨rfl, hb⟩; have HP4 := Lib.hid (HP.out.below hb); clear hb)
                exact ⟨⟨3, rfl, by omega, HP4.out⟩, by simp [intOf]⟩
              · have HO : Hid (∀ B W, Tab B W b (k + 1) (mvS F q (-1) k) → Calls Try.prog 13 #[.pointer (some ⟨b.t, 0, none⟩), .int .i64 3, .agg #[.int .i64 V, .int .u8 (Y : Int), .int .u8 (y1 : Int), .int .u8 (y2 : Int), .int .u8 (y3 : Int), .int .u8 (y4 : Int), .int .u8 (y5 : Int)]] W fun e w' => e = .returned (.tuple #[.int .i64 55, .int .i64 0]) ∧ Below W.heap.size W w') := Lib.hid (fun B W hW => mv_call hW HPV.out HQG.out (mvS_ok F q (-1) k HNZ.out) 3 (by decide) 3 55 (by rfl) (by rw [mv_out0 F q (-1) k HK0.out 3]; kernel_rfl) (by kernel_rfl))
                have hb9 : bits .andNot .i64 63 8 = 55 := by kernel_rfl
                go_wp2_with (go_at_call 13; (with_reducible refine (HO.out _ _ HP.out.tab).mono ?_); rintro e w4 ⟨rfl, hb⟩; have HP4 := Lib.hid (HP.out.below hb); clear hb)
                exact ⟨⟨4, rfl, by omega, HP4.out⟩, by simp [intOf]⟩
              · have HO : Hid (∀ B W, Tab B W b (k + 1) (mvS F q (-1) k) → Calls Try.prog 13 #[.pointer (some ⟨b.t, 0, none⟩), .int .i64 4, .agg #[.int .i64 V, .int .u8 (Y : Int), .int .u8 (y1 : Int), .int .u8 (y2 : Int), .int .u8 (y3 : Int), .int .u8 (y4 : Int), .int .u8 (y5 : Int)]] W fun e w' => e = .returned (.tuple #[.int .i64 47, .int .i64 0]) ∧ Below W.heap.size W w') := Lib.hid (fun B W hW => mv_call hW HPV.out HQG.out (mvS_ok F q (-1) k HNZ.out) 4 (by decide) 4 47 (by rfl) (by rw [mv_out0 F q (-1) k HK0.out 4]; kernel_rfl) (by kernel_rfl))
                have hb9 : bits .andNot .i64 63 16 = 47 := by kernel_rfl
                go_wp2_with (go_at_call 13; (with_reducible refine (HO.out _ _ HP.out.tab).mono ?_); rintro e w4 ⟨rfl, hb⟩; have HP4 := Lib.hid (HP.out.below hb); clear hb)
                exact ⟨⟨5, rfl, by omega, HP4.out⟩, by simp [intOf]⟩
              · have HO : Hid (∀ B W, Tab B W b (k + 1) (mvS F q (-1) k) → Calls Try.prog 13 #[.pointer (some ⟨b.t, 0, none⟩), .int .i64 5, .agg #[.int .i64 V, .int .u8 (Y : Int), .int .u8 (y1 : Int), .int .u8 (y2 : Int), .int .u8 (y3 : Int), .int .u8 (y4 : Int), .int .u8 (y5 : Int)]] W fun e w' => e = .returned (.tuple #[.int .i64 31, .int .i64 0]) ∧ Below W.heap.size W w') := Lib.hid (fun B W hW => mv_call hW HPV.out HQG.out (mvS_ok F q (-1) k HNZ.out) 5 (by decide) 5 31 (by rfl) (by rw [mv_out0 F q (-1) k HK0.out 5]; kernel_rfl) (by kernel_rfl))
                have hb9 : bits .andNot .i64 63 32 = 31 := by kernel_rfl
                go_wp2_with (go_at_call 13; (with_reducible refine (HO.out _ _ HP.out.tab).mono ?_); rintro e w4 ⟨rfl, hb⟩; have HP4 := Lib.hid (HP.out.below hb); clear hb)
                exact ⟨⟨6, rfl, by omega, HP4.out⟩, by simp [intOf]⟩
            · have hl := HNZ.out hk0
              have hl6 : last = 0 ∨ last = 1 ∨ last = 2 ∨ last = 3 ∨ last = 4 ∨ last = 5 := by omega
              have : a = 0 ∨ a = 1 ∨ a = 2 ∨ a = 3 ∨ a = 4 ∨ a = 5 := by omega
              clear ha5 hl
              rcases hl6 with rfl | rfl | rfl | rfl | rfl | rfl
              · rcases this with rfl | rfl | rfl | rfl | rfl | rfl
                · have HO : Hid (∀ B W, Tab B W b (k + 1) (mvS F q 0 k) → Calls Try.prog 13 #[.pointer (some ⟨b.t, 0, none⟩), .int .i64 0, .agg #[.int .i64 V, .int .u8 (Y : Int), .int .u8 (y1 : Int), .int .u8 (y2 : Int), .int .u8 (y3 : Int), .int .u8 (y4 : Int), .int .u8 (y5 : Int)]] W fun e w' => e = .returned (.tuple #[.int .i64 0, .int .i64 0]) ∧ Below W.heap.size W w') := Lib.hid (fun B W hW => mv_call hW HPV.out HQG.out (mvS_ok F q 0 k HNZ.out) 0 (by decide) 0 0 (by rfl) (by rw [show outP (mvS F q 0 k) 0 q = _ from mv_out F q 0 k hk0 0]; kernel_rfl) (by kernel_rfl))
                  have hb9 : bits .andNot .i64 1 1 = 0 := by kernel_rfl
                  go_wp2_with (go_at_call 13; (with_reducible refine (HO.out _ _ HP.out.tab).mono ?_); rintro e w4 ⟨rfl, hb⟩; have HP4 := Lib.hid (HP.out.below hb); clear hb)
                  exact ⟨⟨1, rfl, by omega, HP4.out⟩, by simp [intOf]⟩
                · have HO : Hid (∀ B W, Tab B W b (k + 1) (mvS F q 0 k) → Calls Try.prog 13 #[.pointer (some ⟨b.t, 0, none⟩), .int .i64 1, .agg #[.int .i64 V, .int .u8 (Y : Int), .int .u8 (y1 : Int), .int .u8 (y2 : Int), .int .u8 (y3 : Int), .int .u8 (y4 : Int), .int .u8 (y5 : Int)]] W fun e w' => e = .returned (.tuple #[.int .i64 1, .int .i64 0]) ∧ Below W.heap.size W w') := Lib.hid (fun B W hW => mv_call hW HPV.out HQG.out (mvS_ok F q 0 k HNZ.out) 1 (by decide) 1 1 (by rfl) (by rw [show outP (mvS F q 0 k) 1 q = _ from mv_out F q 0 k hk0 1]; kernel_rfl) (by kernel_rfl))
                  have hb9 : bits .andNot .i64 1 2 = 1 := by kernel_rfl
                  go_wp2_with (go_at_call 13; (with_reducible refine (HO.out _ _ HP.out.tab).mono ?_); rintro e w4 ⟨rfl, hb⟩; have HP4 := Lib.hid (HP.out.below hb); clear hb)
                  exact ⟨⟨2, rfl, by omega, HP4.out⟩, by simp [intOf]⟩
                · have HO : Hid (∀ B W, Tab B W b (k + 1) (mvS F q 0 k) → Calls Try.prog 13 #[.pointer (some ⟨b.t, 0, none⟩), .int .i64 2, .agg #[.int .i64 V, .int .u8 (Y : Int), .int .u8 (y1 : Int), .int .u8 (y2 : Int), .int .u8 (y3 : Int), .int .u8 (y4 : Int), .int .u8 (y5 : Int)]] W fun e w' => e = .returned (.tuple #[.int .i64 1, .int .i64 0]) ∧ Below W.heap.size W w') := Lib.hid (fun B W hW => mv_call hW HPV.out HQG.out (mvS_ok F q 0 k HNZ.out) 2 (by decide) 2 1 (by rfl) (by rw [show outP (mvS F q 0 k) 2 q = _ from mv_out F q 0 k hk0 2]; kernel_rfl) (by kernel_rfl))
                  have hb9 : bits .andNot .i64 1 4 = 1 := by kernel_rfl
                  go_wp2_with (go_at_call 13; (with_reducible refine (HO.out _ _ HP.out.tab).mono ?_); rintro e w4 ⟨rfl, hb⟩; have HP4 := Lib.hid (HP.out.below hb); clear hb)
                  exact ⟨⟨3, rfl, by omega, HP4.out⟩, by simp [intOf]⟩
                · have HO : Hid (∀ B W, Tab B W b (k + 1) (mvS F q 0 k) → Calls Try.prog 13 #[.pointer (some ⟨b.t, 0, none⟩), .int .i64 3, .agg #[.int .i64 V, .int .u8 (Y : Int), .int .u8 (y1 : Int), .int .u8 (y2 : Int), .int .u8 (y3 : Int), .int .u8 (y4 : Int), .int .u8 (y5 : Int)]] W fun e w' => e = .returned (.tuple #[.int .i64 1, .int .i64 0]) ∧ Below W.heap.size W w') := Lib.hid (fun B W hW => mv_call hW HPV.out HQG.out (mvS_ok F q 0 k HNZ.out) 3 (by decide) 3 1 (by rfl) (by rw [show outP (mvS F q 0 k) 3 q = _ from mv_out F q 0 k hk0 3]; kernel_rfl) (by kernel_rfl))
                  have hb9 : bits .andNot .i64 1 8 = 1 := by kernel_rfl
                  go_wp2_with (go_at_call 13; (with_reducible refine (HO.out _ _ HP.out.tab).mono ?_); rintro e w4 ⟨rfl, hb⟩; have HP4 := Lib.hid (HP.out.below hb); clear hb)
                  exact ⟨⟨4, rfl, by omega, HP4.out⟩, by simp [intOf]⟩
                · have HO : Hid (∀ B W, Tab B W b (k + 1) (mvS F q 0 k) → Calls Try.prog 13 #[.pointer (some ⟨b.t, 0, none⟩), .int .i64 4, .agg #[.int .i64 V, .int .u8 (Y : Int), .int .u8 (y1 : Int), .int .u8 (y2 : Int), .int .u8 (y3 : Int), .int .u8 (y4 : Int), .int .u8 (y5 : Int)]] W fun e w' => e = .returned (.tuple #[.int .i64 1, .int .i64 0]) ∧ Below W.heap.size W w') := Lib.hid (fun B W hW => mv_call hW HPV.out HQG.out (mvS_ok F q 0 k HNZ.out) 4 (by decide) 4 1 (by rfl) (by rw [show outP (mvS F q 0 k) 4 q = _ from mv_out F q 0 k hk0 4]; kernel_rfl) (by kernel_rfl))
                  have hb9 : bits .andNot .i64 1 16 = 1 := by kernel_rfl
                  go_wp2_with (go_at_call 13; (with_reducible refine (HO.out _ _ HP.out.tab).mono ?_); rintro e w4 ⟨rfl, hb⟩; have HP4 := Lib.hid (HP.out.below hb); clear hb)
                  exact ⟨⟨5, rfl, by omega, HP4.out⟩, by simp [intOf]⟩
                · have HO : Hid (∀ B W, Tab B W b (k + 1) (mvS F q 0 k) → Calls Try.prog 13 #[.pointer (some ⟨b.t, 0, none⟩), .int .i64 5, .agg #[.int .i64 V, .int .u8 (Y : Int), .int .u8 (y1 : Int), .int .u8 (y2 : Int), .int .u8 (y3 : Int), .int .u8 (y4 : Int), .int .u8 (y5 : Int)]] W fun e w' => e = .returned (.tuple #[.int .i64 1, .int .i64 0]) ∧ Below W.heap.size W w') := Lib.hid (fun B W hW => mv_call hW HPV.out HQG.out (mvS_ok F q 0 k HNZ.out) 5 (by decide) 5 1 (by rfl) (by rw [show outP (mvS F q 0 k) 5 q = _ from mv_out F q 0 k hk0 5]; kernel_rfl) (by kernel_rfl))
                  have hb9 : bits .andNot .i64 1 32 = 1 := by kernel_rfl
                  go_wp2_with (go_at_call 13; (with_reducible refine (HO.out _ _ HP.out.tab).mono ?_); rintro e w4 ⟨rfl, hb⟩; have HP4 := Lib.hid (HP.out.below hb); clear hb)
                  exact ⟨⟨6, rfl, by omega, HP4.out⟩, by simp [intOf]⟩
              · rcases this with rfl | rfl | rfl | rfl | rfl | rfl
                · have HO : Hid (∀ B W, Tab B W b (k + 1) (mvS F q 1 k) → Calls Try.prog 13 #[.pointer (some ⟨b.t, 0, none⟩), .int .i64 0, .agg #[.int .i64 V, .int .u8 (Y : Int), .int .u8 (y1 : Int), .int .u8 (y2 : Int), .int .u8 (y3 : Int), .int .u8 (y4 : Int), .int .u8 (y5 : Int)]] W fun e w' => e = .returned (.tuple #[.int .i64 2, .int .i64 0]) ∧ Below W.heap.size W w') := Lib.hid (fun B W hW => mv_call hW HPV.out HQG.out (mvS_ok F q 1 k HNZ.out) 0 (by decide) 0 2 (by rfl) (by rw [show outP (mvS F q 1 k) 0 q = _ from mv_out F q 1 k hk0 0]; kernel_rfl) (by kernel_rfl))
                  have hb9 : bits .andNot .i64 2 1 = 2 := by kernel_rfl
                  go_wp2_with (go_at_call 13; (with_reducible refine (HO.out _ _ HP.out.tab).mono ?_); rintro e w4 ⟨rfl, hb⟩; have HP4 := Lib.hid (HP.out.below hb); clear hb)
                  exact ⟨⟨1, rfl, by omega, HP4.out⟩, by simp [intOf]⟩
                · have HO : Hid (∀ B W, Tab B W b (k + 1) (mvS F q 1 k) → Calls Try.prog 13 #[.pointer (some ⟨b.t, 0, none⟩), .int .i64 1, .agg #[.int .i64 V, .int .u8 (Y : Int), .int .u8 (y1 : Int), .int .u8 (y2 : Int), .int .u8 (y3 : Int), .int .u8 (y4 : Int), .int .u8 (y5 : Int)]] W fun e w' => e = .returned (.tuple #[.int .i64 0, .int .i64 0]) ∧ Below W.heap.size W w') := Lib.hid (fun B W hW => mv_call hW HPV.out HQG.out (mvS_ok F q 1 k HNZ.out) 1 (by decide) 1 0 (by rfl) (by rw [show outP (mvS F q 1 k) 1 q = _ from mv_out F q 1 k hk0 1]; kernel_rfl) (by kernel_rfl))
                  have hb9 : bits .andNot .i64 2 2 = 0 := by kernel_rfl
                  go_wp2_with (go_at_call 13; (with_reducible refine (HO.out _ _ HP.out.tab).mono ?_); rintro e w4 ⟨rfl, hb⟩; have HP4 := Lib.hid (HP.out.below hb); clear hb)
                  exact ⟨⟨2, rfl, by omega, HP4.out⟩, by simp [intOf]⟩
                · have HO : Hid (∀ B W, Tab B W b (k + 1) (mvS F q 1 k) → Calls Try.prog 13 #[.pointer (some ⟨b.t, 0, none⟩), .int .i64 2, .agg #[.int .i64 V, .int .u8 (Y : Int), .int .u8 (y1 : Int), .int .u8 (y2 : Int), .int .u8 (y3 : Int), .int .u8 (y4 : Int), .int .u8 (y5 : Int)]] W fun e w' => e = .returned (.tuple #[.int .i64 2, .int .i64 0]) ∧ Below W.heap.size W w') := Lib.hid (fun B W hW => mv_call hW HPV.out HQG.out (mvS_ok F q 1 k HNZ.out) 2 (by decide) 2 2 (by rfl) (by rw [show outP (mvS F q 1 k) 2 q = _ from mv_out F q 1 k hk0 2]; kernel_rfl) (by kernel_rfl))
                  have hb9 : bits .andNot .i64 2 4 = 2 := by kernel_rfl
                  go_wp2_with (go_at_call 13; (with_reducible refine (HO.out _ _ HP.out.tab).mono ?_); rintro e w4 ⟨rfl, hb⟩; have HP4 := Lib.hid (HP.out.below hb); clear hb)
                  exact ⟨⟨3, rfl, by omega, HP4.out⟩, by simp [intOf]⟩
                · have HO : Hid (∀ B W, Tab B W b (k + 1) (mvS F q 1 k) → Calls Try.prog 13 #[.pointer (some ⟨b.t, 0, none⟩), .int .i64 3, .agg #[.int .i64 V, .int .u8 (Y : Int), .int .u8 (y1 : Int), .int .u8 (y2 : Int), .int .u8 (y3 : Int), .int .u8 (y4 : Int), .int .u8 (y5 : Int)]] W fun e w' => e = .returned (.tuple #[.int .i64 2, .int .i64 0]) ∧ Below W.heap.size W w') := Lib.hid (fun B W hW => mv_call hW HPV.out HQG.out (mvS_ok F q 1 k HNZ.out) 3 (by decide) 3 2 (by rfl) (by rw [show outP (mvS F q 1 k) 3 q = _ from mv_out F q 1 k hk0 3]; kernel_rfl) (by kernel_rfl))
                  have hb9 : bits .andNot .i64 2 8 = 2 := by kernel_rfl
                  go_wp2_with (go_at_call 13; (with_reducible refine (HO.out _ _ HP.out.tab).mono ?_); rintro e w4 ⟨rfl, hb⟩; have HP4 := Lib.hid (HP.out.below hb); clear hb)
                  exact ⟨⟨4, rfl, by omega, HP4.out⟩, by simp [intOf]⟩
                · have HO : Hid (∀ B W, Tab B W b (k + 1) (mvS F q 1 k) → Calls Try.prog 13 #[.pointer (some ⟨b.t, 0, none⟩), .int .i64 4, .agg #[.int .i64 V, .int .u8 (Y : Int), .int .u8 (y1 : Int), .int .u8 (y2 : Int), .int .u8 (y3 : Int), .int .u8 (y4 : Int), .int .u8 (y5 : Int)]] W fun e w' => e = .returned (.tuple #[.int .i64 2, .int .i64 0]) ∧ Below W.heap.size W w') := Lib.hid (fun B W hW => mv_call hW HPV.out HQG.out (mvS_ok F q 1 k HNZ.out) 4 (by decide) 4 2 (by rfl) (by rw [show outP (mvS F q 1 k) 4 q = _ from mv_out F q 1 k hk0 4]; kernel_rfl) (by kernel_rfl))
                  have hb9 : bits .andNot .i64 2 16 = 2 := by kernel_rfl
                  go_wp2_with (go_at_call 13; (with_reducible refine (HO.out _ _ HP.out.tab).mono ?_); rintro e w4 ⟨rfl, hb⟩; have HP4 := Lib.hid (HP.out.below hb); clear hb)
                  exact ⟨⟨5, rfl, by omega, HP4.out⟩, by simp [intOf]⟩
                · have HO : Hid (∀ B W, Tab B W b (k + 1) (mvS F q 1 k) → Calls Try.prog 13 #[.pointer (some ⟨b.t, 0, none⟩), .int .i64 5, .agg #[.int .i64 V, .int .u8 (Y : Int), .int .u8 (y1 : Int), .int .u8 (y2 : Int), .int .u8 (y3 : Int), .int .u8 (y4 : Int), .int .u8 (y5 : Int)]] W fun e w' => e = .returned (.tuple #[.int .i64 2, .int .i64 0]) ∧ Below W.heap.size W w') := Lib.hid (fun B W hW => mv_call hW HPV.out HQG.out (mvS_ok F q 1 k HNZ.out) 5 (by decide) 5 2 (by rfl) (by rw [show outP (mvS F q 1 k) 5 q = _ from mv_out F q 1 k hk0 5]; kernel_rfl) (by kernel_rfl))
                  have hb9 : bits .andNot .i64 2 32 = 2 := by kernel_rfl
                  go_wp2_with (go_at_call 13; (with_reducible refine (HO.out _ _ HP.out.tab).mono ?_); rintro e w4 ⟨rfl, hb⟩; have HP4 := Lib.hid (HP.out.below hb); clear hb)
                  exact ⟨⟨6, rfl, by omega, HP4.out⟩, by simp [intOf]⟩
              · rcases this with rfl | rfl | rfl | rfl | rfl | rfl
                · have HO : Hid (∀ B W, Tab B W b (k + 1) (mvS F q 2 k) → Calls Try.prog 13 #[.pointer (some ⟨b.t, 0, none⟩), .int .i64 0, .agg #[.int .i64 V, .int .u8 (Y : Int), .int .u8 (y1 : Int), .int .u8 (y2 : Int), .int .u8 (y3 : Int), .int .u8 (y4 : Int), .int .u8 (y5 : Int)]] W fun e w' => e = .returned (.tuple #[.int .i64 4, .int .i64 0]) ∧ Below W.heap.size W w') := Lib.hid (fun B W hW => mv_call hW HPV.out HQG.out (mvS_ok F q 2 k HNZ.out) 0 (by decide) 0 4 (by rfl) (by rw [show outP (mvS F q 2 k) 0 q = _ from mv_out F q 2 k hk0 0]; kernel_rfl) (by kernel_rfl))
                  have hb9 : bits .andNot .i64 4 1 = 4 := by kernel_rfl
                  go_wp2_with (go_at_call 13; (with_reducible refine (HO.out _ _ HP.out.tab).mono ?_); rintro e w4 ⟨rfl, hb⟩; have HP4 := Lib.hid (HP.out.below hb); clear hb)
                  exact ⟨⟨1, rfl, by omega, HP4.out⟩, by simp [intOf]⟩
                · have HO : Hid (∀ B W, Tab B W b (k + 1) (mvS F q 2 k) → Calls Try.prog 13 #[.pointer (some ⟨b.t, 0, none⟩), .int .i64 1, .agg #[.int .i64 V, .int .u8 (Y : Int), .int .u8 (y1 : Int), .int .u8 (y2 : Int), .int .u8 (y3 : Int), .int .u8 (y4 : Int), .int .u8 (y5 : Int)]] W fun e w' => e = .returned (.tuple #[.int .i64 4, .int .i64 0]) ∧ Below W.heap.size W w') := Lib.hid (fun B W hW => mv_call hW HPV.out HQG.out (mvS_ok F q 2 k HNZ.out) 1 (by decide) 1 4 (by rfl) (by rw [show outP (mvS F q 2 k) 1 q = _ from mv_out F q 2 k hk0 1]; kernel_rfl) (by kernel_rfl))
                  have hb9 : bits .andNot .i64 4 2 = 4 := by kernel_rfl
                  go_wp2_with (go_at_call 13; (with_reducible refine (HO.out _ _ HP.out.tab).mono ?_); rintro e w4 ⟨rfl, hb⟩; have HP4 := Lib.hid (HP.out.below hb); clear hb)
                  exact ⟨⟨2, rfl, by omega, HP4.out⟩, by simp [intOf]⟩
                · have HO : Hid (∀ B W, Tab B W b (k + 1) (mvS F q 2 k) → Calls Try.prog 13 #[.pointer (some ⟨b.t, 0, none⟩), .int .i64 2, .agg #[.int .i64 V, .int .u8 (Y : Int), .int .u8 (y1 : Int), .int .u8 (y2 : Int), .int .u8 (y3 : Int), .int .u8 (y4 : Int), .int .u8 (y5 : Int)]] W fun e w' => e = .returned (.tuple #[.int .i64 0, .int .i64 0]) ∧ Below W.heap.size W w') := Lib.hid (fun B W hW => mv_call hW HPV.out HQG.out (mvS_ok F q 2 k HNZ.out) 2 (by decide) 2 0 (by rfl) (by rw [show outP (mvS F q 2 k) 2 q = _ from mv_out F q 2 k hk0 2]; kernel_rfl) (by kernel_rfl))
                  have hb9 : bits .andNot .i64 4 4 = 0 := by kernel_rfl
                  go_wp2_with (go_at_call 13; (with_reducible refine (HO.out _ _ HP.out.tab).mono ?_); rintro e w4 ⟨rfl, hb⟩; have HP4 := Lib.hid (HP.out.below hb); clear hb)
                  exact ⟨⟨3, rfl, by omega, HP4.out⟩, by simp [intOf]⟩
                · have HO : Hid (∀ B W, Tab B W b (k + 1) (mvS F q 2 k) → Calls Try.prog 13 #[.pointer (some ⟨b.t, 0, none⟩), .int .i64 3, .agg #[.int .i64 V, .int .u8 (Y : Int), .int .u8 (y1 : Int), .int .u8 (y2 : Int), .int .u8 (y3 : Int), .int .u8 (y4 : Int), .int .u8 (y5 : Int)]] W fun e w' => e = .returned (.tuple #[.int .i64 4, .int .i64 0]) ∧ Below W.heap.size W w') := Lib.hid (fun B W hW => mv_call hW HPV.out HQG.out (mvS_ok F q 2 k HNZ.out) 3 (by decide) 3 4 (by rfl) (by rw [show outP (mvS F q 2 k) 3 q = _ from mv_out F q 2 k hk0 3]; kernel_rfl) (by kernel_rfl))
                  have hb9 : bits .andNot .i64 4 8 = 4 := by kernel_rfl
                  go_wp2_with (go_at_call 13; (with_reducible refine (HO.out _ _ HP.out.tab).mono ?_); rintro e w4 ⟨rfl, hb⟩; have HP4 := Lib.hid (HP.out.below hb); clear hb)
                  exact ⟨⟨4, rfl, by omega, HP4.out⟩, by simp [intOf]⟩
                · have HO : Hid (∀ B W, Tab B W b (k + 1) (mvS F q 2 k) → Calls Try.prog 13 #[.pointer (some ⟨b.t, 0, none⟩), .int .i64 4, .agg #[.int .i64 V, .int .u8 (Y : Int), .int .u8 (y1 : Int), .int .u8 (y2 : Int), .int .u8 (y3 : Int), .int .u8 (y4 : Int), .int .u8 (y5 : Int)]] W fun e w' => e = .returned (.tuple #[.int .i64 4, .int .i64 0]) ∧ Below W.heap.size W w') := Lib.hid (fun B W hW => mv_call hW HPV.out HQG.out (mvS_ok F q 2 k HNZ.out) 4 (by decide) 4 4 (by rfl) (by rw [show outP (mvS F q 2 k) 4 q = _ from mv_out F q 2 k hk0 4]; kernel_rfl) (by kernel_rfl))
                  have hb9 : bits .andNot .i64 4 16 = 4 := by kernel_rfl
                  go_wp2_with (go_at_call 13; (with_reducible refine (HO.out _ _ HP.out.tab).mono ?_); rintro e w4 ⟨rfl, hb⟩; have HP4 := Lib.hid (HP.out.below hb); clear hb)
                  exact ⟨⟨5, rfl, by omega, HP4.out⟩, by simp [intOf]⟩
                · have HO : Hid (∀ B W, Tab B W b (k + 1) (mvS F q 2 k) → Calls Try.prog 13 #[.pointer (some ⟨b.t, 0, none⟩), .int .i64 5, .agg #[.int .i64 V, .int .u8 (Y : Int), .int .u8 (y1 : Int), .int .u8 (y2 : Int), .int .u8 (y3 : Int), .int .u8 (y4 : Int), .int .u8 (y5 : Int)]] W fun e w' => e = .returned (.tuple #[.int .i64 4, .int .i64 0]) ∧ Below W.heap.size W w') := Lib.hid (fun B W hW => mv_call hW HPV.out HQG.out (mvS_ok F q 2 k HNZ.out) 5 (by decide) 5 4 (by rfl) (by rw [show outP (mvS F q 2 k) 5 q = _ from mv_out F q 2 k hk0 5]; kernel_rfl) (by kernel_rfl))
                  have hb9 : bits .andNot .i64 4 32 = 4 := by kernel_rfl
                  go_wp2_with (go_at_call 13; (with_reducible refine (HO.out _ _ HP.out.tab).mono ?_); rintro e w4 ⟨rfl, hb⟩; have HP4 := Lib.hid (HP.out.below hb); clear hb)
                  exact ⟨⟨6, rfl, by omega, HP4.out⟩, by simp [intOf]⟩
              · rcases this with rfl | rfl | rfl | rfl | rfl | rfl
                · have HO : Hid (∀ B W, Tab B W b (k + 1) (mvS F q 3 k) → Calls Try.prog 13 #[.pointer (some ⟨b.t, 0, none⟩), .int .i64 0, .agg #[.int .i64 V, .int .u8 (Y : Int), .int .u8 (y1 : Int), .int .u8 (y2 : Int), .int .u8 (y3 : Int), .int .u8 (y4 : Int), .int .u8 (y5 : Int)]] W fun e w' => e = .returned (.tuple #[.int .i64 8, .int .i64 0]) ∧ Below W.heap.size W w') := Lib.hid (fun B W hW => mv_call hW HPV.out HQG.out (mvS_ok F q 3 k HNZ.out) 0 (by decide) 0 8 (by rfl) (by rw [show outP (mvS F q 3 k) 0 q = _ from mv_out F q 3 k hk0 0]; kernel_rfl) (by kernel_rfl))
                  have hb9 : bits .andNot .i64 8 1 = 8 := by kernel_rfl
                  go_wp2_with (go_at_call 13; (with_reducible refine (HO.out _ _ HP.out.tab).mono ?_); rintro e w4 ⟨rfl, hb⟩; have HP4 := Lib.hid (HP.out.below hb); clear hb)
                  exact ⟨⟨1, rfl, by omega, HP4.out⟩, by simp [intOf]⟩
                · have HO : Hid (∀ B W, Tab B W b (k + 1) (mvS F q 3 k) → Calls Try.prog 13 #[.pointer (some ⟨b.t, 0, none⟩), .int .i64 1, .agg #[.int .i64 V, .int .u8 (Y : Int), .int .u8 (y1 : Int), .int .u8 (y2 : Int), .int .u8 (y3 : Int), .int .u8 (y4 : Int), .int .u8 (y5 : Int)]] W fun e w' => e = .returned (.tuple #[.int .i64 8, .int .i64 0]) ∧ Below W.heap.size W w') := Lib.hid (fun B W hW => mv_call hW HPV.out HQG.out (mvS_ok F q 3 k HNZ.out) 1 (by decide) 1 8 (by rfl) (by rw [show outP (mvS F q 3 k) 1 q = _ from mv_out F q 3 k hk0 1]; kernel_rfl) (by kernel_rfl))
                  have hb9 : bits .andNot .i64 8 2 = 8 := by kernel_rfl
                  go_wp2_with (go_at_call 13; (with_reducible refine (HO.out _ _ HP.out.tab).mono ?_); rintro e w4 ⟨rfl, hb⟩; have HP4 := Lib.hid (HP.out.below hb); clear hb)
                  exact ⟨⟨2, rfl, by omega, HP4.out⟩, by simp [intOf]⟩
                · have HO : Hid (∀ B W, Tab B W b (k + 1) (mvS F q 3 k) → Calls Try.prog 13 #[.pointer (some ⟨b.t, 0, none⟩), .int .i64 2, .agg #[.int .i64 V, .int .u8 (Y : Int), .int .u8 (y1 : Int), .int .u8 (y2 : Int), .int .u8 (y3 : Int), .int .u8 (y4 : Int), .int .u8 (y5 : Int)]] W fun e w' => e = .returned (.tuple #[.int .i64 8, .int .i64 0]) ∧ Below W.heap.size W w') := Lib.hid (fun B W hW => mv_call hW HPV.out HQG.out (mvS_ok F q 3 k HNZ.out) 2 (by decide) 2 8 (by rfl) (by rw [show outP (mvS F q 3 k) 2 q = _ from mv_out F q 3 k hk0 2]; kernel_rfl) (by kernel_rfl))
                  have hb9 : bits .andNot .i64 8 4 = 8 := by kernel_rfl
                  go_wp2_with (go_at_call 13; (with_reducible refine (HO.out _ _ HP.out.tab).mono ?_); rintro e w4 ⟨rfl, hb⟩; have HP4 := Lib.hid (HP.out.below hb); clear hb)
                  exact ⟨⟨3, rfl, by omega, HP4.out⟩, by simp [intOf]⟩
                · have HO : Hid (∀ B W, Tab B W b (k + 1) (mvS F q 3 k) → Calls Try.prog 13 #[.pointer (some ⟨b.t, 0, none⟩), .int .i64 3, .agg #[.int .i64 V, .int .u8 (Y : Int), .int .u8 (y1 : Int), .int .u8 (y2 : Int), .int .u8 (y3 : Int), .int .u8 (y4 : Int), .int .u8 (y5 : Int)]] W fun e w' => e = .returned (.tuple #[.int .i64 0, .int .i64 0]) ∧ Below W.heap.size W w') := Lib.hid (fun B W hW => mv_call hW HPV.out HQG.out (mvS_ok F q 3 k HNZ.out) 3 (by decide) 3 0 (by rfl) (by rw [show outP (mvS F q 3 k) 3 q = _ from mv_out F q 3 k hk0 3]; kernel_rfl) (by kernel_rfl))
                  have hb9 : bits .andNot .i64 8 8 = 0 := by kernel_rfl
                  go_wp2_with (go_at_call 13; (with_reducible refine (HO.out _ _ HP.out.tab).mono ?_); rintro e w4 ⟨rfl, hb⟩; have HP4 := Lib.hid (HP.out.below hb); clear hb)
                  exact ⟨⟨4, rfl, by omega, HP4.out⟩, by simp [intOf]⟩
                · have HO : Hid (∀ B W, Tab B W b (k + 1) (mvS F q 3 k) → Calls Try.prog 13 #[.pointer (some ⟨b.t, 0, none⟩), .int .i64 4, .agg #[.int .i64 V, .int .u8 (Y : Int), .int .u8 (y1 : Int), .int .u8 (y2 : Int), .int .u8 (y3 : Int), .int .u8 (y4 : Int), .int .u8 (y5 : Int)]] W fun e w' => e = .returned (.tuple #[.int .i64 8, .int .i64 0]) ∧ Below W.heap.size W w') := Lib.hid (fun B W hW => mv_call hW HPV.out HQG.out (mvS_ok F q 3 k HNZ.out) 4 (by decide) 4 8 (by rfl) (by rw [show outP (mvS F q 3 k) 4 q = _ from mv_out F q 3 k hk0 4]; kernel_rfl) (by kernel_rfl))
                  have hb9 : bits .andNot .i64 8 16 = 8 := by kernel_rfl
                  go_wp2_with (go_at_call 13; (with_reducible refine (HO.out _ _ HP.out.tab).mono ?_); rintro e w4 ⟨rfl, hb⟩; have HP4 := Lib.hid (HP.out.below hb); clear hb)
                  exact ⟨⟨5, rfl, by omega, HP4.out⟩, by simp [intOf]⟩
                · have HO : Hid (∀ B W, Tab B W b (k + 1) (mvS F q 3 k) → Calls Try.prog 13 #[.pointer (some ⟨b.t, 0, none⟩), .int .i64 5, .agg #[.int .i64 V, .int .u8 (Y : Int), .int .u8 (y1 : Int), .int .u8 (y2 : Int), .int .u8 (y3 : Int), .int .u8 (y4 : Int), .int .u8 (y5 : Int)]] W fun e w' => e = .returned (.tuple #[.int .i64 8, .int .i64 0]) ∧ Below W.heap.size W w') := Lib.hid (fun B W hW => mv_call hW HPV.out HQG.out (mvS_ok F q 3 k HNZ.out) 5 (by decide) 5 8 (by rfl) (by rw [show outP (mvS F q 3 k) 5 q = _ from mv_out F q 3 k hk0 5]; kernel_rfl) (by kernel_rfl))
                  have hb9 : bits .andNot .i64 8 32 = 8 := by kernel_rfl
                  go_wp2_with (go_at_call 13; (with_reducible refine (HO.out _ _ HP.out.tab).mono ?_); rintro e w4 ⟨rfl, hb⟩; have HP4 := Lib.hid (HP.out.below hb); clear hb)
                  exact ⟨⟨6, rfl, by omega, HP4.out⟩, by simp [intOf]⟩
              · rcases this with rfl | rfl | rfl | rfl | rfl | rfl
                · have HO : Hid (∀ B W, Tab B W b (k + 1) (mvS F q 4 k) → Calls Try.prog 13 #[.pointer (some ⟨b.t, 0, none⟩), .int .i64 0, .agg #[.int .i64 V, .int .u8 (Y : Int), .int .u8 (y1 : Int), .int .u8 (y2 : Int), .int .u8 (y3 : Int), .int .u8 (y4 : Int), .int .u8 (y5 : Int)]] W fun e w' => e = .returned (.tuple #[.int .i64 16, .int .i64 0]) ∧ Below W.heap.size W w') := Lib.hid (fun B W hW => mv_call hW HPV.out HQG.out (mvS_ok F q 4 k HNZ.out) 0 (by decide) 0 16 (by rfl) (by rw [show outP (mvS F q 4 k) 0 q = _ from mv_out F q 4 k hk0 0]; kernel_rfl) (by kernel_rfl))
                  have hb9 : bits .andNot .i64 16 1 = 16 := by kernel_rfl
                  go_wp2_with (go_at_call 13; (with_reducible refine (HO.out _ _ HP.out.tab).mono ?_); rintro e w4 ⟨rfl, hb⟩; have HP4 := Lib.hid (HP.out.below hb); clear hb)
                  exact ⟨⟨1, rfl, by omega, HP4.out⟩, by simp [intOf]⟩
                · have HO : Hid (∀ B W, Tab B W b (k + 1) (mvS F q 4 k) → Calls Try.prog 13 #[.pointer (some ⟨b.t, 0, none⟩), .int .i64 1, .agg #[.int .i64 V, .int .u8 (Y : Int), .int .u8 (y1 : Int), .int .u8 (y2 : Int), .int .u8 (y3 : Int), .int .u8 (y4 : Int), .int .u8 (y5 : Int)]] W fun e w' => e = .returned (.tuple #[.int .i64 16, .int .i64 0]) ∧ Below W.heap.size W w') := Lib.hid (fun B W hW => mv_call hW HPV.out HQG.out (mvS_ok F q 4 k HNZ.out) 1 (by decide) 1 16 (by rfl) (by rw [show outP (mvS F q 4 k) 1 q = _ from mv_out F q 4 k hk0 1]; kernel_rfl) (by kernel_rfl))
                  have hb9 : bits .andNot .i64 16 2 = 16 := by kernel_rfl
                  go_wp2_with (go_at_call 13; (with_reducible refine (HO.out _ _ HP.out.tab).mono ?_); rintro e w4 ⟨rfl, hb⟩; have HP4 := Lib.hid (HP.out.below hb); clear hb)
                  exact ⟨⟨2, rfl, by omega, HP4.out⟩, by simp [intOf]⟩
                · have HO : Hid (∀ B W, Tab B W b (k + 1) (mvS F q 4 k) → Calls Try.prog 13 #[.pointer (some ⟨b.t, 0, none⟩), .int .i64 2, .agg #[.int .i64 V, .int .u8 (Y : Int), .int .u8 (y1 : Int), .int .u8 (y2 : Int), .int .u8 (y3 : Int), .int .u8 (y4 : Int), .int .u8 (y5 : Int)]] W fun e w' => e = .returned (.tuple #[.int .i64 16, .int .i64 0]) ∧ Below W.heap.size W w') := Lib.hid (fun B W hW => mv_call hW HPV.out HQG.out (mvS_ok F q 4 k HNZ.out) 2 (by decide) 2 16 (by rfl) (by rw [show outP (mvS F q 4 k) 2 q = _ from mv_out F q 4 k hk0 2]; kernel_rfl) (by kernel_rfl))
                  have hb9 : bits .andNot .i64 16 4 = 16 := by kernel_rfl
                  go_wp2_with (go_at_call 13; (with_reducible refine (HO.out _ _ HP.out.tab).mono ?_); rintro e w4 ⟨rfl, hb⟩; have HP4 := Lib.hid (HP.out.below hb); clear hb)
                  exact ⟨⟨3, rfl, by omega, HP4.out⟩, by simp [intOf]⟩
                · have HO : Hid (∀ B W, Tab B W b (k + 1) (mvS F q 4 k) → Calls Try.prog 13 #[.pointer (some ⟨b.t, 0, none⟩), .int .i64 3, .agg #[.int .i64 V, .int .u8 (Y : Int), .int .u8 (y1 : Int), .int .u8 (y2 : Int), .int .u8 (y3 : Int), .int .u8 (y4 : Int), .int .u8 (y5 : Int)]] W fun e w' => e = .returned (.tuple #[.int .i64 16, .int .i64 0]) ∧ Below W.heap.size W w') := Lib.hid (fun B W hW => mv_call hW HPV.out HQG.out (mvS_ok F q 4 k HNZ.out) 3 (by decide) 3 16 (by rfl) (by rw [show outP (mvS F q 4 k) 3 q = _ from mv_out F q 4 k hk0 3]; kernel_rfl) (by kernel_rfl))
                  have hb9 : bits .andNot .i64 16 8 = 16 := by kernel_rfl
                  go_wp2_with (go_at_call 13; (with_reducible refine (HO.out _ _ HP.out.tab).mono ?_); rintro e w4 ⟨rfl, hb⟩; have HP4 := Lib.hid (HP.out.below hb); clear hb)
                  exact ⟨⟨4, rfl, by omega, HP4.out⟩, by simp [intOf]⟩
                · have HO : Hid (∀ B W, Tab B W b (k + 1) (mvS F q 4 k) → Calls Try.prog 13 #[.pointer (some ⟨b.t, 0, none⟩), .int .i64 4, .agg #[.int .i64 V, .int .u8 (Y : Int), .int .u8 (y1 : Int), .int .u8 (y2 : Int), .int .u8 (y3 : Int), .int .u8 (y4 : Int), .int .u8 (y5 : Int)]] W fun e w' => e = .returned (.tuple #[.int .i64 0, .int .i64 0]) ∧ Below W.heap.size W w') := Lib.hid (fun B W hW => mv_call hW HPV.out HQG.out (mvS_ok F q 4 k HNZ.out) 4 (by decide) 4 0 (by rfl) (by rw [show outP (mvS F q 4 k) 4 q = _ from mv_out F q 4 k hk0 4]; kernel_rfl) (by kernel_rfl))
                  have hb9 : bits .andNot .i64 16 16 = 0 := by kernel_rfl
                  go_wp2_with (go_at_call 13; (with_reducible refine (HO.out _ _ HP.out.tab).mono ?_); rintro e w4 ⟨rfl, hb⟩; have HP4 := Lib.hid (HP.out.below hb); clear hb)
                  exact ⟨⟨5, rfl, by omega, HP4.out⟩, by simp [intOf]⟩
                · have HO : Hid (∀ B W, Tab B W b (k + 1) (mvS F q 4 k) → Calls Try.prog 13 #[.pointer (some ⟨b.t, 0, none⟩), .int .i64 5, .agg #[.int .i64 V, .int .u8 (Y : Int), .int .u8 (y1 : Int), .int .u8 (y2 : Int), .int .u8 (y3 : Int), .int .u8 (y4 : Int), .int .u8 (y5 : Int)]] W fun e w' => e = .returned (.tuple #[.int .i64 16, .int .i64 0]) ∧ Below W.heap.size W w') := Lib.hid (fun B W hW => mv_call hW HPV.out HQG.out (mvS_ok F q 4 k HNZ.out) 5 (by decide) 5 16 (by rfl) (by rw [show outP (mvS F q 4 k) 5 q = _ from mv_out F q 4 k hk0 5]; kernel_rfl) (by kernel_rfl))
                  have hb9 : bits .andNot .i64 16 32 = 16 := by kernel_rfl
                  go_wp2_with (go_at_call 13; (with_reducible refine (HO.out _ _ HP.out.tab).mono ?_); rintro e w4 ⟨rfl, hb⟩; have HP4 := Lib.hid (HP.out.below hb); clear hb)
                  exact ⟨⟨6, rfl, by omega, HP4.out⟩, by simp [intOf]⟩
              · rcases this with rfl | rfl | rfl | rfl | rfl | rfl
                · have HO : Hid (∀ B W, Tab B W b (k + 1) (mvS F q 5 k) → Calls Try.prog 13 #[.pointer (some ⟨b.t, 0, none⟩), .int .i64 0, .agg #[.int .i64 V, .int .u8 (Y : Int), .int .u8 (y1 : Int), .int .u8 (y2 : Int), .int .u8 (y3 : Int), .int .u8 (y4 : Int), .int .u8 (y5 : Int)]] W fun e w' => e = .returned (.tuple #[.int .i64 32, .int .i64 0]) ∧ Below W.heap.size W w') := Lib.hid (fun B W hW => mv_call hW HPV.out HQG.out (mvS_ok F q 5 k HNZ.out) 0 (by decide) 0 32 (by rfl) (by rw [show outP (mvS F q 5 k) 0 q = _ from mv_out F q 5 k hk0 0]; kernel_rfl) (by kernel_rfl))
                  have hb9 : bits .andNot .i64 32 1 = 32 := by kernel_rfl
                  go_wp2_with (go_at_call 13; (with_reducible refine (HO.out _ _ HP.out.tab).mono ?_); rintro e w4 ⟨rfl, hb⟩; have HP4 := Lib.hid (HP.out.below hb); clear hb)
                  exact ⟨⟨1, rfl, by omega, HP4.out⟩, by simp [intOf]⟩
                · have HO : Hid (∀ B W, Tab B W b (k + 1) (mvS F q 5 k) → Calls Try.prog 13 #[.pointer (some ⟨b.t, 0, none⟩), .int .i64 1, .agg #[.int .i64 V, .int .u8 (Y : Int), .int .u8 (y1 : Int), .int .u8 (y2 : Int), .int .u8 (y3 : Int), .int .u8 (y4 : Int), .int .u8 (y5 : Int)]] W fun e w' => e = .returned (.tuple #[.int .i64 32, .int .i64 0]) ∧ Below W.heap.size W w') := Lib.hid (fun B W hW => mv_call hW HPV.out HQG.out (mvS_ok F q 5 k HNZ.out) 1 (by decide) 1 32 (by rfl) (by rw [show outP (mvS F q 5 k) 1 q = _ from mv_out F q 5 k hk0 1]; kernel_rfl) (by kernel_rfl))
                  have hb9 : bits .andNot .i64 32 2 = 32 := by kernel_rfl
                  go_wp2_with (go_at_call 13; (with_reducible refine (HO.out _ _ HP.out.tab).mono ?_); rintro e w4 ⟨rfl, hb⟩; have HP4 := Lib.hid (HP.out.below hb); clear hb)
                  exact ⟨⟨2, rfl, by omega, HP4.out⟩, by simp [intOf]⟩
                · have HO : Hid (∀ B W, Tab B W b (k + 1) (mvS F q 5 k) → Calls Try.prog 13 #[.pointer (some ⟨b.t, 0, none⟩), .int .i64 2, .agg #[.int .i64 V, .int .u8 (Y : Int), .int .u8 (y1 : Int), .int .u8 (y2 : Int), .int .u8 (y3 : Int), .int .u8 (y4 : Int), .int .u8 (y5 : Int)]] W fun e w' => e = .returned (.tuple #[.int .i64 32, .int .i64 0]) ∧ Below W.heap.size W w') := Lib.hid (fun B W hW => mv_call hW HPV.out HQG.out (mvS_ok F q 5 k HNZ.out) 2 (by decide) 2 32 (by rfl) (by rw [show outP (mvS F q 5 k) 2 q = _ from mv_out F q 5 k hk0 2]; kernel_rfl) (by kernel_rfl))
                  have hb9 : bits .andNot .i64 32 4 = 32 := by kernel_rfl
                  go_wp2_with (go_at_call 13; (with_reducible refine (HO.out _ _ HP.out.tab).mono ?_); rintro e w4 ⟨rfl, hb⟩; have HP4 := Lib.hid (HP.out.below hb); clear hb)
                  exact ⟨⟨3, rfl, by omega, HP4.out⟩, by simp [intOf]⟩
                · have HO : Hid (∀ B W, Tab B W b (k + 1) (mvS F q 5 k) → Calls Try.prog 13 #[.pointer (some ⟨b.t, 0, none⟩), .int .i64 3, .agg #[.int .i64 V, .int .u8 (Y : Int), .int .u8 (y1 : Int), .int .u8 (y2 : Int), .int .u8 (y3 : Int), .int .u8 (y4 : Int), .int .u8 (y5 : Int)]] W fun e w' => e = .returned (.tuple #[.int .i64 32, .int .i64 0]) ∧ Below W.heap.size W w') := Lib.hid (fun B W hW => mv_call hW HPV.out HQG.out (mvS_ok F q 5 k HNZ.out) 3 (by decide) 3 32 (by rfl) (by rw [show outP (mvS F q 5 k) 3 q = _ from mv_out F q 5 k hk0 3]; kernel_rfl) (by kernel_rfl))
                  have hb9 : bits .andNot .i64 32 8 = 32 := by kernel_rfl
                  go_wp2_with (go_at_call 13; (with_reducible refine (HO.out _ _ HP.out.tab).mono ?_); rintro e w4 ⟨rfl, hb⟩; have HP4 := Lib.hid (HP.out.below hb); clear hb)
                  exact ⟨⟨4, rfl, by omega, HP4.out⟩, by simp [intOf]⟩
                · have HO : Hid (∀ B W, Tab B W b (k + 1) (mvS F q 5 k) → Calls Try.prog 13 #[.pointer (some ⟨b.t, 0, none⟩), .int .i64 4, .agg #[.int .i64 V, .int .u8 (Y : Int), .int .u8 (y1 : Int), .int .u8 (y2 : Int), .int .u8 (y3 : Int), .int .u8 (y4 : Int), .int .u8 (y5 : Int)]] W fun e w' => e = .returned (.tuple #[.int .i64 32, .int .i64 0]) ∧ Below W.heap.size W w') := Lib.hid (fun B W hW => mv_call hW HPV.out HQG.out (mvS_ok F q 5 k HNZ.out) 4 (by decide) 4 32 (by rfl) (by rw [show outP (mvS F q 5 k) 4 q = _ from mv_out F q 5 k hk0 4]; kernel_rfl) (by kernel_rfl))
                  have hb9 : bits .andNot .i64 32 16 = 32 := by kernel_rfl
                  go_wp2_with (go_at_call 13; (with_reducible refine (HO.out _ _ HP.out.tab).mono ?_); rintro e w4 ⟨rfl, hb⟩; have HP4 := Lib.hid (HP.out.below hb); clear hb)
                  exact ⟨⟨5, rfl, by omega, HP4.out⟩, by simp [intOf]⟩
                · have HO : Hid (∀ B W, Tab B W b (k + 1) (mvS F q 5 k) → Calls Try.prog 13 #[.pointer (some ⟨b.t, 0, none⟩), .int .i64 5, .agg #[.int .i64 V, .int .u8 (Y : Int), .int .u8 (y1 : Int), .int .u8 (y2 : Int), .int .u8 (y3 : Int), .int .u8 (y4 : Int), .int .u8 (y5 : Int)]] W fun e w' => e = .returned (.tuple #[.int .i64 0, .int .i64 0]) ∧ Below W.heap.size W w') := Lib.hid (fun B W hW => mv_call hW HPV.out HQG.out (mvS_ok F q 5 k HNZ.out) 5 (by decide) 5 0 (by rfl) (by rw [show outP (mvS F q 5 k) 5 q = _ from mv_out F q 5 k hk0 5]; kernel_rfl) (by kernel_rfl))
                  have hb9 : bits .andNot .i64 32 32 = 0 := by kernel_rfl
                  go_wp2_with (go_at_call 13; (with_reducible refine (HO.out _ _ HP.out.tab).mono ?_); rintro e w4 ⟨rfl, hb⟩; have HP4 := Lib.hid (HP.out.below hb); clear hb)
                  exact ⟨⟨6, rfl, by omega, HP4.out⟩, by simp [intOf]⟩
      · have d1 : decide ((k : Int) < (n : Int)) = false := decide_eq_false (by omega)
        clear hlt
        go_wp2_with fail
        go_loopw [11] (fun av wr2 => MvRel2 _ b F q last k w av wr2) (fun av _ => 6 - (intOf av).toNat)
        case atStart => exact ⟨0, rfl, by omega, HP.out⟩
        case round =>
          obtain ⟨a, rfl, ha, hp⟩ := hrel
          have HP := Lib.hid hp
          clear hp
          by_cases ha6 : a = 6
          · subst ha6
            obtain ⟨p0, p1, p2, p3, p4, p5, p6, p7, p8, p9, p10, p11, -⟩ := HP.out.all
            rw [HQ.out] at p5 p6 p7 p8 p9 p10 p11
            have HO : Hid (∀ B W, Tab B W b (k + 1) (mvS F q last 0) → Calls Try.prog 13 #[.pointer (some ⟨b.t, 0, none⟩), .int .i64 0, .agg #[.int .i64 V, .int .u8 (Y : Int), .int .u8 (y1 : Int), .int .u8 (y2 : Int), .int .u8 (y3 : Int), .int .u8 (y4 : Int), .int .u8 (y5 : Int)]] W fun e w' => e = .returned (.tuple #[.int .i64 62, .int .i64 0]) ∧ Below W.heap.size W w') := Lib.hid (fun B W hW => mv_call hW HPV.out HQG.out (mvS_ok F q last 0 (fun h => absurd rfl h)) 0 (by decide) 0 62 (by rfl) (by rw [mv_out0 F q last 0 rfl 0]; kernel_rfl) (by kernel_rfl))
            have HLn : Hid (∀ B W, Tab B W b (k + 1) (mvS F q last 0) → Calls Try.prog 15 #[.pointer (some ⟨b.t, 0, none⟩)] W fun e w' => e = .returned (.int .i64 0) ∧ Below W.heap.size W w') := Lib.hid (fun B W hW => mv_len hW (by omega))
            by_cases hkz : k = 0
            · have hl := HZ.out hkz
              subst hl
              have HAg : Hid (∀ B W, Tab B W b (k + 1) (mvS F q (-1) k) → Calls Try.prog 16 #[.pointer (some ⟨b.t, 0, none⟩), .int .i64 1048576] W fun e w' => e = .returned (.int .i64 0) ∧ Tab B w' b (k + 1) (mvS F q (-1) 0) ∧ ButB b.e W w') := Lib.hid (fun B W hW => by have l := mv_age hW hk30; rw [if_pos hkz] at l; exact l)
              go_wp2_with (first
                | (go_at_call 16; (with_reducible refine (HAg.out _ _ HP.out.tab).mono ?_); rintro e w4 ⟨rfl, ht, hb⟩; have HP4 := Lib.hid (HP.out.but ht hb (HP.out.tab.nbox HP.out.box).2.2 HBE.out HP.out.tab.lt.2.2.2.2); obtain ⟨r0, r1, r2, r3, r4, r5, r6, r7, r8, r9, r10, r11, -⟩ := HP4.out.all; rw [HQ.out] at r5 r6 r7 r8 r9 r10 r11; clear ht hb)
                | (go_at_call 13; (with_reducible refine (HO.out _ _ HP4.out.tab).mono ?_); rintro e w5 ⟨rfl, hb⟩; have HP5 := Lib.hid (HP4.out.below hb); clear hb)
                | (go_at_call 15; (with_reducible refine (HLn.out _ _ HP5.out.tab).mono ?_); rintro e w6 ⟨rfl, hb⟩; have HP6 := Lib.hid (HP5.out.below hb); clear hb))
              go_ret
              exact ⟨rfl, HP6.out.bel⟩
            · have hl := HNZ.out hkz
              have d9 : decide (0 ≤ last) = true := decide_eq_true hl.1
              have HAg : Hid (∀ B W, Tab B W b (k + 1) (mvS F q last k) → Calls Try.prog 16 #[.pointer (some ⟨b.t, 0, none⟩), .int .i64 1048576] W fun e w' => e = .returned (.int .i64 1) ∧ Tab B w' b (k + 1) (mvS F q last 0) ∧ ButB b.e W w') := Lib.hid (fun B W hW => by have l := mv_age hW hk30; rw [if_neg hkz] at l; exact l)
              go_wp2_with (first
                | (go_at_call 16; (with_reducible refine (HAg.out _ _ HP.out.tab).mono ?_); rintro e w4 ⟨rfl, ht, hb⟩; have HP4 := Lib.hid (HP.out.but ht hb (HP.out.tab.nbox HP.out.box).2.2 HBE.out HP.out.tab.lt.2.2.2.2); obtain ⟨r0, r1, r2, r3, r4, r5, r6, r7, r8, r9, r10, r11, -⟩ := HP4.out.all; rw [HQ.out] at r5 r6 r7 r8 r9 r10 r11; clear ht hb)
                | (go_at_call 13; (with_reducible refine (HO.out _ _ HP4.out.tab).mono ?_); rintro e w5 ⟨rfl, hb⟩; have HP5 := Lib.hid (HP4.out.below hb); clear hb)
                | (go_at_call 15; (with_reducible refine (HLn.out _ _ HP5.out.tab).mono ?_); rintro e w6 ⟨rfl, hb⟩; have HP6 := Lib.hid (HP5.out.below hb); clear hb))
              go_ret
              exact ⟨rfl, HP6.out.bel⟩
          · have ha5 : a < 6 := by omega
            obtain ⟨p0, p1, p2, p3, p4, p5, p6, p7, p8, p9, p10, p11, -⟩ := HP.out.all
            rw [HQ.out] at p5 p6 p7 p8 p9 p10 p11
            clear ha ha6
            by_cases hk0 : k = 0
            · have hl := HZ.out hk0
              subst hl
              have HK0 := Lib.hid hk0
              clear hk0
              have : a = 0 ∨ a = 1 ∨ a = 2 ∨ a = 3 ∨ a = 4 ∨ a = 5 := by omega
              clear ha5
              rcases this with rfl | rfl | rfl | rfl | rfl | rfl
              · have HO : Hid (∀ B W, Tab B W b (k + 1) (mvS F q (-1) k) → Calls Try.prog 13 #[.pointer (some ⟨b.t, 0, none⟩), .int .i64 0, .agg #[.int .i64 V, .int .u8 (Y : Int), .int .u8 (y1 : Int), .int .u8 (y2 : Int), .int .u8 (y3 : Int), .int .u8 (y4 : Int), .int .u8 (y5 : Int)]] W fun e w' => e = .returned (.tuple #[.int .i64 62, .int .i64 0]) ∧ Below W.heap.size W w') := Lib.hid (fun B W hW => mv_call hW HPV.out HQG.out (mvS_ok F q (-1) k HNZ.out) 0 (by decide) 0 62 (by rfl) (by rw [mv_out0 F q (-1) k HK0.out 0]; kernel_rfl) (by kernel_rfl))
                have hb9 : bits .andNot .i64 63 1 = 62 := by kernel_rfl
                go_wp2_with (go_at_call 13; (with_reducible refine (HO.out _ _ HP.out.tab).mono ?_); rintro e w4 ⟨rfl, hb⟩; have HP4 := Lib.hid (HP.out.below hb); clear hb)
                exact ⟨⟨1, rfl, by omega, HP4.out⟩, by simp [intOf]⟩
              · have HO : Hid (∀ B W, Tab B W b (k + 1) (mvS F q (-1) k) → Calls Try.prog 13 #[.pointer (some ⟨b.t, 0, none⟩), .int .i64 1, .agg #[.int .i64 V, .int .u8 (Y : Int), .int .u8 (y1 : Int), .int .u8 (y2 : Int), .int .u8 (y3 : Int), .int .u8 (y4 : Int), .int .u8 (y5 : Int)]] W fun e w' => e = .returned (.tuple #[.int .i64 61, .int .i64 0]) ∧ Below W.heap.size W w') := Lib.hid (fun B W hW => mv_call hW HPV.out HQG.out (mvS_ok F q (-1) k HNZ.out) 1 (by decide) 1 61 (by rfl) (by rw [mv_out0 F q (-1) k HK0.out 1]; kernel_rfl) (by kernel_rfl))
                have hb9 : bits .andNot .i64 63 2 = 61 := by kernel_rfl
                go_wp2_with (go_at_call 13; (with_reducible refine (HO.out _ _ HP.out.tab).mono ?_); rintro e w4 ⟨rfl, hb⟩; have HP4 := Lib.hid (HP.out.below hb); clear hb)
                exact ⟨⟨2, rfl, by omega, HP4.out⟩, by simp [intOf]⟩
              · have HO : Hid (∀ B W, Tab B W b (k + 1) (mvS F q (-1) k) → Calls Try.prog 13 #[.pointer (some ⟨b.t, 0, none⟩), .int .i64 2, .agg #[.int .i64 V, .int .u8 (Y : Int), .int .u8 (y1 : Int), .int .u8 (y2 : Int), .int .u8 (y3 : Int), .int .u8 (y4 : Int), .int .u8 (y5 : Int)]] W fun e w' => e = .returned (.tuple #[.int .i64 59, .int .i64 0]) ∧ Below W.heap.size W w') := Lib.hid (fun B W hW => mv_call hW HPV.out HQG.out (mvS_ok F q (-1) k HNZ.out) 2 (by decide) 2 59 (by rfl) (by rw [mv_out0 F q (-1) k HK0.out 2]; kernel_rfl) (by kernel_rfl))
                have hb9 : bits .andNot .i64 63 4 = 59 := by kernel_rfl
                go_wp2_with (go_at_call 13; (with_reducible refine (HO.out _ _ HP.out.tab).mono ?_); rintro e w4 ⟨rfl, hb⟩; have HP4 := Lib.hid (HP.out.below hb); clear hb)
                exact ⟨⟨3, rfl, by omega, HP4.out⟩, by simp [intOf]⟩
              · have HO : Hid (∀ B W, Tab B W b (k + 1) (mvS F q (-1) k) → Calls Try.prog 13 #[.pointer (some ⟨b.t, 0, none⟩), .int .i64 3, .agg #[.int .i64 V, .int .u8 (Y : Int), .int .u8 (y1 : Int), .int .u8 (y2 : Int), .int .u8 (y3 : Int), .int .u8 (y4 : Int), .int .u8 (y5 : Int)]] W fun e w' => e = .returned (.tuple #[.int .i64 55, .int .i64 0]) ∧ Below W.heap.size W w') := Lib.hid (fun B W hW => mv_call hW HPV.out HQG.out (mvS_ok F q (-1) k HNZ.out) 3 (by decide) 3 55 (by rfl) (by rw [mv_out0 F q (-1) k HK0.out 3]; kernel_rfl) (by kernel_rfl))
                have hb9 : bits .andNot .i64 63 8 = 55 := by kernel_rfl
                go_wp2_with (go_at_call 13; (with_reducible refine (HO.out _ _ HP.out.tab).mono ?_); rintro e w4 ⟨rfl, hb⟩; have HP4 := Lib.hid (HP.out.below hb); clear hb)
                exact ⟨⟨4, rfl, by omega, HP4.out⟩, by simp [intOf]⟩
              · have HO : Hid (∀ B W, Tab B W b (k + 1) (mvS F q (-1) k) → Calls Try.prog 13 #[.pointer (some ⟨b.t, 0, none⟩), .int .i64 4, .agg #[.int .i64 V, .int .u8 (Y : Int), .int .u8 (y1 : Int), .int .u8 (y2 : Int), .int .u8 (y3 : Int), .int .u8 (y4 : Int), .int .u8 (y5 : Int)]] W fun e w' => e = .returned (.tuple #[.int .i64 47, .int .i64 0]) ∧ Below W.heap.size W w') := Lib.hid (fun B W hW => mv_call hW HPV.out HQG.out (mvS_ok F q (-1) k HNZ.out) 4 (by decide) 4 47 (by rfl) (by rw [mv_out0 F q (-1) k HK0.out 4]; kernel_rfl) (by kernel_rfl))
                have hb9 : bits .andNot .i64 63 16 = 47 := by kernel_rfl
                go_wp2_with (go_at_call 13; (with_reducible refine (HO.out _ _ HP.out.tab).mono ?_); rintro e w4 ⟨rfl, hb⟩; have HP4 := Lib.hid (HP.out.below hb); clear hb)
                exact ⟨⟨5, rfl, by omega, HP4.out⟩, by simp [intOf]⟩
              · have HO : Hid (∀ B W, Tab B W b (k + 1) (mvS F q (-1) k) → Calls Try.prog 13 #[.pointer (some ⟨b.t, 0, none⟩), .int .i64 5, .agg #[.int .i64 V, .int .u8 (Y : Int), .int .u8 (y1 : Int), .int .u8 (y2 : Int), .int .u8 (y3 : Int), .int .u8 (y4 : Int), .int .u8 (y5 : Int)]] W fun e w' => e = .returned (.tuple #[.int .i64 31, .int .i64 0]) ∧ Below W.heap.size W w') := Lib.hid (fun B W hW => mv_call hW HPV.out HQG.out (mvS_ok F q (-1) k HNZ.out) 5 (by decide) 5 31 (by rfl) (by rw [mv_out0 F q (-1) k HK0.out 5]; kernel_rfl) (by kernel_rfl))
                have hb9 : bits .andNot .i64 63 32 = 31 := by kernel_rfl
                go_wp2_with (go_at_call 13; (with_reducible refine (HO.out _ _ HP.out.tab).mono ?_); rintro e w4 ⟨rfl, hb⟩; have HP4 := Lib.hid (HP.out.below hb); clear hb)
                exact ⟨⟨6, rfl, by omega, HP4.out⟩, by simp [intOf]⟩
            · have hl := HNZ.out hk0
              have hl6 : last = 0 ∨ last = 1 ∨ last = 2 ∨ last = 3 ∨ last = 4 ∨ last = 5 := by omega
              have : a = 0 ∨ a = 1 ∨ a = 2 ∨ a = 3 ∨ a = 4 ∨ a = 5 := by omega
              clear ha5 hl
              rcases hl6 with rfl | rfl | rfl | rfl | rfl | rfl
              · rcases this with rfl | rfl | rfl | rfl | rfl | rfl
                · have HO : Hid (∀ B W, Tab B W b (k + 1) (mvS F q 0 k) → Calls Try.prog 13 #[.pointer (some ⟨b.t, 0, none⟩), .int .i64 0, .agg #[.int .i64 V, .int .u8 (Y : Int), .int .u8 (y1 : Int), .int .u8 (y2 : Int), .int .u8 (y3 : Int), .int .u8 (y4 : Int), .int .u8 (y5 : Int)]] W fun e w' => e = .returned (.tuple #[.int .i64 0, .int .i64 0]) ∧ Below W.heap.size W w') := Lib.hid (fun B W hW => mv_call hW HPV.out HQG.out (mvS_ok F q 0 k HNZ.out) 0 (by decide) 0 0 (by rfl) (by rw [show outP (mvS F q 0 k) 0 q = _ from mv_out F q 0 k hk0 0]; kernel_rfl) (by kernel_rfl))
                  have hb9 : bits .andNot .i64 1 1 = 0 := by kernel_rfl
                  go_wp2_with (go_at_call 13; (with_reducible refine (HO.out _ _ HP.out.tab).mono ?_); rintro e w4 ⟨rfl, hb⟩; have HP4 := Lib.hid (HP.out.below hb); clear hb)
                  exact ⟨⟨1, rfl, by omega, HP4.out⟩, by simp [intOf]⟩
                · have HO : Hid (∀ B W, Tab B W b (k + 1) (mvS F q 0 k) → Calls Try.prog 13 #[.pointer (some ⟨b.t, 0, none⟩), .int .i64 1, .agg #[.int .i64 V, .int .u8 (Y : Int), .int .u8 (y1 : Int), .int .u8 (y2 : Int), .int .u8 (y3 : Int), .int .u8 (y4 : Int), .int .u8 (y5 : Int)]] W fun e w' => e = .returned (.tuple #[.int .i64 1, .int .i64 0]) ∧ Below W.heap.size W w') := Lib.hid (fun B W hW => mv_call hW HPV.out HQG.out (mvS_ok F q 0 k HNZ.out) 1 (by decide) 1 1 (by rfl) (by rw [show outP (mvS F q 0 k) 1 q = _ from mv_out F q 0 k hk0 1]; kernel_rfl) (by kernel_rfl))
                  have hb9 : bits .andNot .i64 1 2 = 1 := by kernel_rfl
                  go_wp2_with (go_at_call 13; (with_reducible refine (HO.out _ _ HP.out.tab).mono ?_); rintro e w4 ⟨rfl, hb⟩; have HP4 := Lib.hid (HP.out.below hb); clear hb)
                  exact ⟨⟨2, rfl, by omega, HP4.out⟩, by simp [intOf]⟩
                · have HO : Hid (∀ B W, Tab B W b (k + 1) (mvS F q 0 k) → Calls Try.prog 13 #[.pointer (some ⟨b.t, 0, none⟩), .int .i64 2, .agg #[.int .i64 V, .int .u8 (Y : Int), .int .u8 (y1 : Int), .int .u8 (y2 : Int), .int .u8 (y3 : Int), .int .u8 (y4 : Int), .int .u8 (y5 : Int)]] W fun e w' => e = .returned (.tuple #[.int .i64 1, .int .i64 0]) ∧ Below W.heap.size W w') := Lib.hid (fun B W hW => mv_call hW HPV.out HQG.out (mvS_ok F q 0 k HNZ.out) 2 (by decide) 2 1 (by rfl) (by rw [show outP (mvS F q 0 k) 2 q = _ from mv_out F q 0 k hk0 2]; kernel_rfl) (by kernel_rfl))
                  have hb9 : bits .andNot .i64 1 4 = 1 := by kernel_rfl
                  go_wp2_with (go_at_call 13; (with_reducible refine (HO.out _ _ HP.out.tab).mono ?_); rintro e w4 ⟨rfl, hb⟩; have HP4 := Lib.hid (HP.out.below hb); clear hb)
                  exact ⟨⟨3, rfl, by omega, HP4.out⟩, by simp [intOf]⟩
                · have HO : Hid (∀ B W, Tab B W b (k + 1) (mvS F q 0 k) → Calls Try.prog 13 #[.pointer (some ⟨b.t, 0, none⟩), .int .i64 3, .agg #[.int .i64 V, .int .u8 (Y : Int), .int .u8 (y1 : Int), .int .u8 (y2 : Int), .int .u8 (y3 : Int), .int .u8 (y4 : Int), .int .u8 (y5 : Int)]] W fun e w' => e = .returned (.tuple #[.int .i64 1, .int .i64 0]) ∧ Below W.heap.size W w') := Lib.hid (fun B W hW => mv_call hW HPV.out HQG.out (mvS_ok F q 0 k HNZ.out) 3 (by decide) 3 1 (by rfl) (by rw [show outP (mvS F q 0 k) 3 q = _ from mv_out F q 0 k hk0 3]; kernel_rfl) (by kernel_rfl))
                  have hb9 : bits .andNot .i64 1 8 = 1 := by kernel_rfl
                  go_wp2_with (go_at_call 13; (with_reducible refine (HO.out _ _ HP.out.tab).mono ?_); rintro e w4 ⟨rfl, hb⟩; have HP4 := Lib.hid (HP.out.below hb); clear hb)
                  exact ⟨⟨4, rfl, by omega, HP4.out⟩, by simp [intOf]⟩
                · have HO : Hid (∀ B W, Tab B W b (k + 1) (mvS F q 0 k) → Calls Try.prog 13 #[.pointer (some ⟨b.t, 0, none⟩), .int .i64 4, .agg #[.int .i64 V, .int .u8 (Y : Int), .int .u8 (y1 : Int), .int .u8 (y2 : Int), .int .u8 (y3 : Int), .int .u8 (y4 : Int), .int .u8 (y5 : Int)]] W fun e w' => e = .returned (.tuple #[.int .i64 1, .int .i64 0]) ∧ Below W.heap.size W w') := Lib.hid (fun B W hW => mv_call hW HPV.out HQG.out (mvS_ok F q 0 k HNZ.out) 4 (by decide) 4 1 (by rfl) (by rw [show outP (mvS F q 0 k) 4 q = _ from mv_out F q 0 k hk0 4]; kernel_rfl) (by kernel_rfl))
                  have hb9 : bits .andNot .i64 1 16 = 1 := by kernel_rfl
                  go_wp2_with (go_at_call 13; (with_reducible refine (HO.out _ _ HP.out.tab).mono ?_); rintro e w4 ⟨rfl, hb⟩; have HP4 := Lib.hid (HP.out.below hb); clear hb)
                  exact ⟨⟨5, rfl, by omega, HP4.out⟩, by simp [intOf]⟩
                · have HO : Hid (∀ B W, Tab B W b (k + 1) (mvS F q 0 k) → Calls Try.prog 13 #[.pointer (some ⟨b.t, 0, none⟩), .int .i64 5, .agg #[.int .i64 V, .int .u8 (Y : Int), .int .u8 (y1 : Int), .int .u8 (y2 : Int), .int .u8 (y3 : Int), .int .u8 (y4 : Int), .int .u8 (y5 : Int)]] W fun e w' => e = .returned (.tuple #[.int .i64 1, .int .i64 0]) ∧ Below W.heap.size W w') := Lib.hid (fun B W hW => mv_call hW HPV.out HQG.out (mvS_ok F q 0 k HNZ.out) 5 (by decide) 5 1 (by rfl) (by rw [show outP (mvS F q 0 k) 5 q = _ from mv_out F q 0 k hk0 5]; kernel_rfl) (by kernel_rfl))
                  have hb9 : bits .andNot .i64 1 32 = 1 := by kernel_rfl
                  go_wp2_with (go_at_call 13; (with_reducible refine (HO.out _ _ HP.out.tab).mono ?_); rintro e w4 ⟨rfl, hb⟩; have HP4 := Lib.hid (HP.out.below hb); clear hb)
                  exact ⟨⟨6, rfl, by omega, HP4.out⟩, by simp [intOf]⟩
              · rcases this with rfl | rfl | rfl | rfl | rfl | rfl
                · have HO : Hid (∀ B W, Tab B W b (k + 1) (mvS F q 1 k) → Calls Try.prog 13 #[.pointer (some ⟨b.t, 0, none⟩), .int .i64 0, .agg #[.int .i64 V, .int .u8 (Y : Int), .int .u8 (y1 : Int), .int .u8 (y2 : Int), .int .u8 (y3 : Int), .int .u8 (y4 : Int), .int .u8 (y5 : Int)]] W fun e w' => e = .returned (.tuple #[.int .i64 2, .int .i64 0]) ∧ Below W.heap.size W w') := Lib.hid (fun B W hW => mv_call hW HPV.out HQG.out (mvS_ok F q 1 k HNZ.out) 0 (by decide) 0 2 (by rfl) (by rw [show outP (mvS F q 1 k) 0 q = _ from mv_out F q 1 k hk0 0]; kernel_rfl) (by kernel_rfl))
                  have hb9 : bits .andNot .i64 2 1 = 2 := by kernel_rfl
                  go_wp2_with (go_at_call 13; (with_reducible refine (HO.out _ _ HP.out.tab).mono ?_); rintro e w4 ⟨rfl, hb⟩; have HP4 := Lib.hid (HP.out.below hb); clear hb)
                  exact ⟨⟨1, rfl, by omega, HP4.out⟩, by simp [intOf]⟩
                · have HO : Hid (∀ B W, Tab B W b (k + 1) (mvS F q 1 k) → Calls Try.prog 13 #[.pointer (some ⟨b.t, 0, none⟩), .int .i64 1, .agg #[.int .i64 V, .int .u8 (Y : Int), .int .u8 (y1 : Int), .int .u8 (y2 : Int), .int .u8 (y3 : Int), .int .u8 (y4 : Int), .int .u8 (y5 : Int)]] W fun e w' => e = .returned (.tuple #[.int .i64 0, .int .i64 0]) ∧ Below W.heap.size W w') := Lib.hid (fun B W hW => mv_call hW HPV.out HQG.out (mvS_ok F q 1 k HNZ.out) 1 (by decide) 1 0 (by rfl) (by rw [show outP (mvS F q 1 k) 1 q = _ from mv_out F q 1 k hk0 1]; kernel_rfl) (by kernel_rfl))
                  have hb9 : bits .andNot .i64 2 2 = 0 := by kernel_rfl
                  go_wp2_with (go_at_call 13; (with_reducible refine (HO.out _ _ HP.out.tab).mono ?_); rintro e w4 ⟨rfl, hb⟩; have HP4 := Lib.hid (HP.out.below hb); clear hb)
                  exact ⟨⟨2, rfl, by omega, HP4.out⟩, by simp [intOf]⟩
                · have HO : Hid (∀ B W, Tab B W b (k + 1) (mvS F q 1 k) → Calls Try.prog 13 #[.pointer (some ⟨b.t, 0, none⟩), .int .i64 2, .agg #[.int .i64 V, .int .u8 (Y : Int), .int .u8 (y1 : Int), .int .u8 (y2 : Int), .int .u8 (y3 : Int), .int .u8 (y4 : Int), .int .u8 (y5 : Int)]] W fun e w' => e = .returned (.tuple #[.int .i64 2, .int .i64 0]) ∧ Below W.heap.size W w') := Lib.hid (fun B W hW => mv_call hW HPV.out HQG.out (mvS_ok F q 1 k HNZ.out) 2 (by decide) 2 2 (by rfl) (by rw [show outP (mvS F q 1 k) 2 q = _ from mv_out F q 1 k hk0 2]; kernel_rfl) (by kernel_rfl))
                  have hb9 : bits .andNot .i64 2 4 = 2 := by kernel_rfl
                  go_wp2_with (go_at_call 13; (with_reducible refine (HO.out _ _ HP.out.tab).mono ?_); rintro e w4 ⟨rfl, hb⟩; have HP4 := Lib.hid (HP.out.below hb); clear hb)
                  exact ⟨⟨3, rfl, by omega, HP4.out⟩, by simp [intOf]⟩
                · have HO : Hid (∀ B W, Tab B W b (k + 1) (mvS F q 1 k) → Calls Try.prog 13 #[.pointer (some ⟨b.t, 0, none⟩), .int .i64 3, .agg #[.int .i64 V, .int .u8 (Y : Int), .int .u8 (y1 : Int), .int .u8 (y2 : Int), .int .u8 (y3 : Int), .int .u8 (y4 : Int), .int .u8 (y5 : Int)]] W fun e w' => e = .returned (.tuple #[.int .i64 2, .int .i64 0]) ∧ Below W.heap.size W w') := Lib.hid (fun B W hW => mv_call hW HPV.out HQG.out (mvS_ok F q 1 k HNZ.out) 3 (by decide) 3 2 (by rfl) (by rw [show outP (mvS F q 1 k) 3 q = _ from mv_out F q 1 k hk0 3]; kernel_rfl) (by kernel_rfl))
                  have hb9 : bits .andNot .i64 2 8 = 2 := by kernel_rfl
                  go_wp2_with (go_at_call 13; (with_reducible refine (HO.out _ _ HP.out.tab).mono ?_); rintro e w4 ⟨rfl, hb⟩; have HP4 := Lib.hid (HP.out.below hb); clear hb)
                  exact ⟨⟨4, rfl, by omega, HP4.out⟩, by simp [intOf]⟩
                · have HO : Hid (∀ B W, Tab B W b (k + 1) (mvS F q 1 k) → Calls Try.prog 13 #[.pointer (some ⟨b.t, 0, none⟩), .int .i64 4, .agg #[.int .i64 V, .int .u8 (Y : Int), .int .u8 (y1 : Int), .int .u8 (y2 : Int), .int .u8 (y3 : Int), .int .u8 (y4 : Int), .int .u8 (y5 : Int)]] W fun e w' => e = .returned (.tuple #[.int .i64 2, .int .i64 0]) ∧ Below W.heap.size W w') := Lib.hid (fun B W hW => mv_call hW HPV.out HQG.out (mvS_ok F q 1 k HNZ.out) 4 (by decide) 4 2 (by rfl) (by rw [show outP (mvS F q 1 k) 4 q = _ from mv_out F q 1 k hk0 4]; kernel_rfl) (by kernel_rfl))
                  have hb9 : bits .andNot .i64 2 16 = 2 := by kernel_rfl
                  go_wp2_with (go_at_call 13; (with_reducible refine (HO.out _ _ HP.out.tab).mono ?_); rintro e w4 ⟨rfl, hb⟩; have HP4 := Lib.hid (HP.out.below hb); clear hb)
                  exact ⟨⟨5, rfl, by omega, HP4.out⟩, by simp [intOf]⟩
                · have HO : Hid (∀ B W, Tab B W b (k + 1) (mvS F q 1 k) → Calls Try.prog 13 #[.pointer (some ⟨b.t, 0, none⟩), .int .i64 5, .agg #[.int .i64 V, .int .u8 (Y : Int), .int .u8 (y1 : Int), .int .u8 (y2 : Int), .int .u8 (y3 : Int), .int .u8 (y4 : Int), .int .u8 (y5 : Int)]] W fun e w' => e = .returned (.tuple #[.int .i64 2, .int .i64 0]) ∧ Below W.heap.size W w') := Lib.hid (fun B W hW => mv_call hW HPV.out HQG.out (mvS_ok F q 1 k HNZ.out) 5 (by decide) 5 2 (by rfl) (by rw [show outP (mvS F q 1 k) 5 q = _ from mv_out F q 1 k hk0 5]; kernel_rfl) (by kernel_rfl))
                  have hb9 : bits .andNot .i64 2 32 = 2 := by kernel_rfl
                  go_wp2_with (go_at_call 13; (with_reducible refine (HO.out _ _ HP.out.tab).mono ?_); rintro e w4 ⟨rfl, hb⟩; have HP4 := Lib.hid (HP.out.below hb); clear hb)
                  exact ⟨⟨6, rfl, by omega, HP4.out⟩, by simp [intOf]⟩
              · rcases this with rfl | rfl | rfl | rfl | rfl | rfl
                · have HO : Hid (∀ B W, Tab B W b (k + 1) (mvS F q 2 k) → Calls Try.prog 13 #[.pointer (some ⟨b.t, 0, none⟩), .int .i64 0, .agg #[.int .i64 V, .int .u8 (Y : Int), .int .u8 (y1 : Int), .int .u8 (y2 : Int), .int .u8 (y3 : Int), .int .u8 (y4 : Int), .int .u8 (y5 : Int)]] W fun e w' => e = .returned (.tuple #[.int .i64 4, .int .i64 0]) ∧ Below W.heap.size W w') := Lib.hid (fun B W hW => mv_call hW HPV.out HQG.out (mvS_ok F q 2 k HNZ.out) 0 (by decide) 0 4 (by rfl) (by rw [show outP (mvS F q 2 k) 0 q = _ from mv_out F q 2 k hk0 0]; kernel_rfl) (by kernel_rfl))
                  have hb9 : bits .andNot .i64 4 1 = 4 := by kernel_rfl
                  go_wp2_with (go_at_call 13; (with_reducible refine (HO.out _ _ HP.out.tab).mono ?_); rintro e w4 ⟨rfl, hb⟩; have HP4 := Lib.hid (HP.out.below hb); clear hb)
                  exact ⟨⟨1, rfl, by omega, HP4.out⟩, by simp [intOf]⟩
                · have HO : Hid (∀ B W, Tab B W b (k + 1) (mvS F q 2 k) → Calls Try.prog 13 #[.pointer (some ⟨b.t, 0, none⟩), .int .i64 1, .agg #[.int .i64 V, .int .u8 (Y : Int), .int .u8 (y1 : Int), .int .u8 (y2 : Int), .int .u8 (y3 : Int), .int .u8 (y4 : Int), .int .u8 (y5 : Int)]] W fun e w' => e = .returned (.tuple #[.int .i64 4, .int .i64 0]) ∧ Below W.heap.size W w') := Lib.hid (fun B W hW => mv_call hW HPV.out HQG.out (mvS_ok F q 2 k HNZ.out) 1 (by decide) 1 4 (by rfl) (by rw [show outP (mvS F q 2 k) 1 q = _ from mv_out F q 2 k hk0 1]; kernel_rfl) (by kernel_rfl))
                  have hb9 : bits .andNot .i64 4 2 = 4 := by kernel_rfl
                  go_wp2_with (go_at_call 13; (with_reducible refine (HO.out _ _ HP.out.tab).mono ?_); rintro e w4 ⟨rfl, hb⟩; have HP4 := Lib.hid (HP.out.below hb); clear hb)
                  exact ⟨⟨2, rfl, by omega, HP4.out⟩, by simp [intOf]⟩
                · have HO : Hid (∀ B W, Tab B W b (k + 1) (mvS F q 2 k) → Calls Try.prog 13 #[.pointer (some ⟨b.t, 0, none⟩), .int .i64 2, .agg #[.int .i64 V, .int .u8 (Y : Int), .int .u8 (y1 : Int), .int .u8 (y2 : Int), .int .u8 (y3 : Int), .int .u8 (y4 : Int), .int .u8 (y5 : Int)]] W fun e w' => e = .returned (.tuple #[.int .i64 0, .int .i64 0]) ∧ Below W.heap.size W w') := Lib.hid (fun B W hW => mv_call hW HPV.out HQG.out (mvS_ok F q 2 k HNZ.out) 2 (by decide) 2 0 (by rfl) (by rw [show outP (mvS F q 2 k) 2 q = _ from mv_out F q 2 k hk0 2]; kernel_rfl) (by kernel_rfl))
                  have hb9 : bits .andNot .i64 4 4 = 0 := by kernel_rfl
                  go_wp2_with (go_at_call 13; (with_reducible refine (HO.out _ _ HP.out.tab).mono ?_); rintro e w4 ⟨rfl, hb⟩; have HP4 := Lib.hid (HP.out.below hb); clear hb)
                  exact ⟨⟨3, rfl, by omega, HP4.out⟩, by simp [intOf]⟩
                · have HO : Hid (∀ B W, Tab B W b (k + 1) (mvS F q 2 k) → Calls Try.prog 13 #[.pointer (some ⟨b.t, 0, none⟩), .int .i64 3, .agg #[.int .i64 V, .int .u8 (Y : Int), .int .u8 (y1 : Int), .int .u8 (y2 : Int), .int .u8 (y3 : Int), .int .u8 (y4 : Int), .int .u8 (y5 : Int)]] W fun e w' => e = .returned (.tuple #[.int .i64 4, .int .i64 0]) ∧ Below W.heap.size W w') := Lib.hid (fun B W hW => mv_call hW HPV.out HQG.out (mvS_ok F q 2 k HNZ.out) 3 (by decide) 3 4 (by rfl) (by rw [show outP (mvS F q 2 k) 3 q = _ from mv_out F q 2 k hk0 3]; kernel_rfl) (by kernel_rfl))
                  have hb9 : bits .andNot .i64 4 8 = 4 := by kernel_rfl
                  go_wp2_with (go_at_call 13; (with_reducible refine (HO.out _ _ HP.out.tab).mono ?_); rintro e w4 ⟨rfl, hb⟩; have HP4 := Lib.hid (HP.out.below hb); clear hb)
                  exact ⟨⟨4, rfl, by omega, HP4.out⟩, by simp [intOf]⟩
                · have HO : Hid (∀ B W, Tab B W b (k + 1) (mvS F q 2 k) → Calls Try.prog 13 #[.pointer (some ⟨b.t, 0, none⟩), .int .i64 4, .agg #[.int .i64 V, .int .u8 (Y : Int), .int .u8 (y1 : Int), .int .u8 (y2 : Int), .int .u8 (y3 : Int), .int .u8 (y4 : Int), .int .u8 (y5 : Int)]] W fun e w' => e = .returned (.tuple #[.int .i64 4, .int .i64 0]) ∧ Below W.heap.size W w') := Lib.hid (fun B W hW => mv_call hW HPV.out HQG.out (mvS_ok F q 2 k HNZ.out) 4 (by decide) 4 4 (by rfl) (by rw [show outP (mvS F q 2 k) 4 q = _ from mv_out F q 2 k hk0 4]; kernel_rfl) (by kernel_rfl))
                  have hb9 : bits .andNot .i64 4 16 = 4 := by kernel_rfl
                  go_wp2_with (go_at_call 13; (with_reducible refine (HO.out _ _ HP.out.tab).mono ?_); rintro e w4 ⟨rfl, hb⟩; have HP4 := Lib.hid (HP.out.below hb); clear hb)
                  exact ⟨⟨5, rfl, by omega, HP4.out⟩, by simp [intOf]⟩
                · have HO : Hid (∀ B W, Tab B W b (k + 1) (mvS F q 2 k) → Calls Try.prog 13 #[.pointer (some ⟨b.t, 0, none⟩), .int .i64 5, .agg #[.int .i64 V, .int .u8 (Y : Int), .int .u8 (y1 : Int), .int .u8 (y2 : Int), .int .u8 (y3 : Int), .int .u8 (y4 : Int), .int .u8 (y5 : Int)]] W fun e w' => e = .returned (.tuple #[.int .i64 4, .int .i64 0]) ∧ Below W.heap.size W w') := Lib.hid (fun B W hW => mv_call hW HPV.out HQG.out (mvS_ok F q 2 k HNZ.out) 5 (by decide) 5 4 (by rfl) (by rw [show outP (mvS F q 2 k) 5 q = _ from mv_out F q 2 k hk0 5]; kernel_rfl) (by kernel_rfl))
                  have hb9 : bits .andNot .i64 4 32 = 4 := by kernel_rfl
                  go_wp2_with (go_at_call 13; (with_reducible refine (HO.out _ _ HP.out.tab).mono ?_); rintro e w4 ⟨rfl, hb⟩; have HP4 := Lib.hid (HP.out.below hb); clear hb)
                  exact ⟨⟨6, rfl, by omega, HP4.out⟩, by simp [intOf]⟩
              · rcases this with rfl | rfl | rfl | rfl | rfl | rfl
                · have HO : Hid (∀ B W, Tab B W b (k + 1) (mvS F q 3 k) → Calls Try.prog 13 #[.pointer (some ⟨b.t, 0, none⟩), .int .i64 0, .agg #[.int .i64 V, .int .u8 (Y : Int), .int .u8 (y1 : Int), .int .u8 (y2 : Int), .int .u8 (y3 : Int), .int .u8 (y4 : Int), .int .u8 (y5 : Int)]] W fun e w' => e = .returned (.tuple #[.int .i64 8, .int .i64 0]) ∧ Below W.heap.size W w') := Lib.hid (fun B W hW => mv_call hW HPV.out HQG.out (mvS_ok F q 3 k HNZ.out) 0 (by decide) 0 8 (by rfl) (by rw [show outP (mvS F q 3 k) 0 q = _ from mv_out F q 3 k hk0 0]; kernel_rfl) (by kernel_rfl))
                  have hb9 : bits .andNot .i64 8 1 = 8 := by kernel_rfl
                  go_wp2_with (go_at_call 13; (with_reducible refine (HO.out _ _ HP.out.tab).mono ?_); rintro e w4 ⟨rfl, hb⟩; have HP4 := Lib.hid (HP.out.below hb); clear hb)
                  exact ⟨⟨1, rfl, by omega, HP4.out⟩, by simp [intOf]⟩
                · have HO : Hid (∀ B W, Tab B W b (k + 1) (mvS F q 3 k) → Calls Try.prog 13 #[.pointer (some ⟨b.t, 0, none⟩), .int .i64 1, .agg #[.int .i64 V, .int .u8 (Y : Int), .int .u8 (y1 : Int), .int .u8 (y2 : Int), .int .u8 (y3 : Int), .int .u8 (y4 : Int), .int .u8 (y5 : Int)]] W fun e w' => e = .returned (.tuple #[.int .i64 8, .int .i64 0]) ∧ Below W.heap.size W w') := Lib.hid (fun B W hW => mv_call hW HPV.out HQG.out (mvS_ok F q 3 k HNZ.out) 1 (by decide) 1 8 (by rfl) (by rw [show outP (mvS F q 3 k) 1 q = _ from mv_out F q 3 k hk0 1]; kernel_rfl) (by kernel_rfl))
                  have hb9 : bits .andNot .i64 8 2 = 8 := by kernel_rfl
                  go_wp2_with (go_at_call 13; (with_reducible refine (HO.out _ _ HP.out.tab).mono ?_); rintro e w4 ⟨rfl, hb⟩; have HP4 := Lib.hid (HP.out.below hb); clear hb)
                  exact ⟨⟨2, rfl, by omega, HP4.out⟩, by simp [intOf]⟩
                · have HO : Hid (∀ B W, Tab B W b (k + 1) (mvS F q 3 k) → Calls Try.prog 13 #[.pointer (some ⟨b.t, 0, none⟩), .int .i64 2, .agg #[.int .i64 V, .int .u8 (Y : Int), .int .u8 (y1 : Int), .int .u8 (y2 : Int), .int .u8 (y3 : Int), .int .u8 (y4 : Int), .int .u8 (y5 : Int)]] W fun e w' => e = .returned (.tuple #[.int .i64 8, .int .i64 0]) ∧ Below W.heap.size W w') := Lib.hid (fun B W hW => mv_call hW HPV.out HQG.out (mvS_ok F q 3 k HNZ.out) 2 (by decide) 2 8 (by rfl) (by rw [show outP (mvS F q 3 k) 2 q = _ from mv_out F q 3 k hk0 2]; kernel_rfl) (by kernel_rfl))
                  have hb9 : bits .andNot .i64 8 4 = 8 := by kernel_rfl
                  go_wp2_with (go_at_call 13; (with_reducible refine (HO.out _ _ HP.out.tab).mono ?_); rintro e w4 ⟨rfl, hb⟩; have HP4 := Lib.hid (HP.out.below hb); clear hb)
                  exact ⟨⟨3, rfl, by omega, HP4.out⟩, by simp [intOf]⟩
                · have HO : Hid (∀ B W, Tab B W b (k + 1) (mvS F q 3 k) → Calls Try.prog 13 #[.pointer (some ⟨b.t, 0, none⟩), .int .i64 3, .agg #[.int .i64 V, .int .u8 (Y : Int), .int .u8 (y1 : Int), .int .u8 (y2 : Int), .int .u8 (y3 : Int), .int .u8 (y4 : Int), .int .u8 (y5 : Int)]] W fun e w' => e = .returned (.tuple #[.int .i64 0, .int .i64 0]) ∧ Below W.heap.size W w') := Lib.hid (fun B W hW => mv_call hW HPV.out HQG.out (mvS_ok F q 3 k HNZ.out) 3 (by decide) 3 0 (by rfl) (by rw [show outP (mvS F q 3 k) 3 q = _ from mv_out F q 3 k hk0 3]; kernel_rfl) (by kernel_rfl))
                  have hb9 : bits .andNot .i64 8 8 = 0 := by kernel_rfl
                  go_wp2_with (go_at_call 13; (with_reducible refine (HO.out _ _ HP.out.tab).mono ?_); rintro e w4 ⟨rfl, hb⟩; have HP4 := Lib.hid (HP.out.below hb); clear hb)
                  exact ⟨⟨4, rfl, by omega, HP4.out⟩, by simp [intOf]⟩
                · have HO : Hid (∀ B W, Tab B W b (k + 1) (mvS F q 3 k) → Calls Try.prog 13 #[.pointer (some ⟨b.t, 0, none⟩), .int .i64 4, .agg #[.int .i64 V, .int .u8 (Y : Int), .int .u8 (y1 : Int), .int .u8 (y2 : Int), .int .u8 (y3 : Int), .int .u8 (y4 : Int), .int .u8 (y5 : Int)]] W fun e w' => e = .returned (.tuple #[.int .i64 8, .int .i64 0]) ∧ Below W.heap.size W w') := Lib.hid (fun B W hW => mv_call hW HPV.out HQG.out (mvS_ok F q 3 k HNZ.out) 4 (by decide) 4 8 (by rfl) (by rw [show outP (mvS F q 3 k) 4 q = _ from mv_out F q 3 k hk0 4]; kernel_rfl) (by kernel_rfl))
                  have hb9 : bits .andNot .i64 8 16 = 8 := by kernel_rfl
                  go_wp2_with (go_at_call 13; (with_reducible refine (HO.out _ _ HP.out.tab).mono ?_); rintro e w4 ⟨rfl, hb⟩; have HP4 := Lib.hid (HP.out.below hb); clear hb)
                  exact ⟨⟨5, rfl, by omega, HP4.out⟩, by simp [intOf]⟩
                · have HO : Hid (∀ B W, Tab B W b (k + 1) (mvS F q 3 k) → Calls Try.prog 13 #[.pointer (some ⟨b.t, 0, none⟩), .int .i64 5, .agg #[.int .i64 V, .int .u8 (Y : Int), .int .u8 (y1 : Int), .int .u8 (y2 : Int), .int .u8 (y3 : Int), .int .u8 (y4 : Int), .int .u8 (y5 : Int)]] W fun e w' => e = .returned (.tuple #[.int .i64 8, .int .i64 0]) ∧ Below W.heap.size W w') := Lib.hid (fun B W hW => mv_call hW HPV.out HQG.out (mvS_ok F q 3 k HNZ.out) 5 (by decide) 5 8 (by rfl) (by rw [show outP (mvS F q 3 k) 5 q = _ from mv_out F q 3 k hk0 5]; kernel_rfl) (by kernel_rfl))
                  have hb9 : bits .andNot .i64 8 32 = 8 := by kernel_rfl
                  go_wp2_with (go_at_call 13; (with_reducible refine (HO.out _ _ HP.out.tab).mono ?_); rintro e w4 ⟨rfl, hb⟩; have HP4 := Lib.hid (HP.out.below hb); clear hb)
                  exact ⟨⟨6, rfl, by omega, HP4.out⟩, by simp [intOf]⟩
              · rcases this with rfl | rfl | rfl | rfl | rfl | rfl
                · have HO : Hid (∀ B W, Tab B W b (k + 1) (mvS F q 4 k) → Calls Try.prog 13 #[.pointer (some ⟨b.t, 0, none⟩), .int .i64 0, .agg #[.int .i64 V, .int .u8 (Y : Int), .int .u8 (y1 : Int), .int .u8 (y2 : Int), .int .u8 (y3 : Int), .int .u8 (y4 : Int), .int .u8 (y5 : Int)]] W fun e w' => e = .returned (.tuple #[.int .i64 16, .int .i64 0]) ∧ Below W.heap.size W w') := Lib.hid (fun B W hW => mv_call hW HPV.out HQG.out (mvS_ok F q 4 k HNZ.out) 0 (by decide) 0 16 (by rfl) (by rw [show outP (mvS F q 4 k) 0 q = _ from mv_out F q 4 k hk0 0]; kernel_rfl) (by kernel_rfl))
                  have hb9 : bits .andNot .i64 16 1 = 16 := by kernel_rfl
                  go_wp2_with (go_at_call 13; (with_reducible refine (HO.out _ _ HP.out.tab).mono ?_); rintro e w4 ⟨rfl, hb⟩; have HP4 := Lib.hid (HP.out.below hb); clear hb)
                  exact ⟨⟨1, rfl, by omega, HP4.out⟩, by simp [intOf]⟩
                · have HO : Hid (∀ B W, Tab B W b (k + 1) (mvS F q 4 k) → Calls Try.prog 13 #[.pointer (some ⟨b.t, 0, none⟩), .int .i64 1, .agg #[.int .i64 V, .int .u8 (Y : Int), .int .u8 (y1 : Int), .int .u8 (y2 : Int), .int .u8 (y3 : Int), .int .u8 (y4 : Int), .int .u8 (y5 : Int)]] W fun e w' => e = .returned (.tuple #[.int .i64 16, .int .i64 0]) ∧ Below W.heap.size W w') := Lib.hid (fun B W hW => mv_call hW HPV.out HQG.out (mvS_ok F q 4 k HNZ.out) 1 (by decide) 1 16 (by rfl) (by rw [show outP (mvS F q 4 k) 1 q = _ from mv_out F q 4 k hk0 1]; kernel_rfl) (by kernel_rfl))
                  have hb9 : bits .andNot .i64 16 2 = 16 := by kernel_rfl
                  go_wp2_with (go_at_call 13; (with_reducible refine (HO.out _ _ HP.out.tab).mono ?_); rintro e w4 ⟨rfl, hb⟩; have HP4 := Lib.hid (HP.out.below hb); clear hb)
                  exact ⟨⟨2, rfl, by omega, HP4.out⟩, by simp [intOf]⟩
                · have HO : Hid (∀ B W, Tab B W b (k + 1) (mvS F q 4 k) → Calls Try.prog 13 #[.pointer (some ⟨b.t, 0, none⟩), .int .i64 2, .agg #[.int .i64 V, .int .u8 (Y : Int), .int .u8 (y1 : Int), .int .u8 (y2 : Int), .int .u8 (y3 : Int), .int .u8 (y4 : Int), .int .u8 (y5 : Int)]] W fun e w' => e = .returned (.tuple #[.int .i64 16, .int .i64 0]) ∧ Below W.heap.size W w') := Lib.hid (fun B W hW => mv_call hW HPV.out HQG.out (mvS_ok F q 4 k HNZ.out) 2 (by decide) 2 16 (by rfl) (by rw [show outP (mvS F q 4 k) 2 q = _ from mv_out F q 4 k hk0 2]; kernel_rfl) (by kernel_rfl))
                  have hb9 : bits .andNot .i64 16 4 = 16 := by kernel_rfl
                  go_wp2_with (go_at_call 13; (with_reducible refine (HO.out _ _ HP.out.tab).mono ?_); rintro e w4 ⟨rfl, hb⟩; have HP4 := Lib.hid (HP.out.below hb); clear hb)
                  exact ⟨⟨3, rfl, by omega, HP4.out⟩, by simp [intOf]⟩
                · have HO : Hid (∀ B W, Tab B W b (k + 1) (mvS F q 4 k) → Calls Try.prog 13 #[.pointer (some ⟨b.t, 0, none⟩), .int .i64 3, .agg #[.int .i64 V, .int .u8 (Y : Int), .int .u8 (y1 : Int), .int .u8 (y2 : Int), .int .u8 (y3 : Int), .int .u8 (y4 : Int), .int .u8 (y5 : Int)]] W fun e w' => e = .returned (.tuple #[.int .i64 16, .int .i64 0]) ∧ Below W.heap.size W w') := Lib.hid (fun B W hW => mv_call hW HPV.out HQG.out (mvS_ok F q 4 k HNZ.out) 3 (by decide) 3 16 (by rfl) (by rw [show outP (mvS F q 4 k) 3 q = _ from mv_out F q 4 k hk0 3]; kernel_rfl) (by kernel_rfl))
                  have hb9 : bits .andNot .i64 16 8 = 16 := by kernel_rfl
                  go_wp2_with (go_at_call 13; (with_reducible refine (HO.out _ _ HP.out.tab).mono ?_); rintro e w4 ⟨rfl, hb⟩; have HP4 := Lib.hid (HP.out.below hb); clear hb)
                  exact ⟨⟨4, rfl, by omega, HP4.out⟩, by simp [intOf]⟩
                · have HO : Hid (∀ B W, Tab B W b (k + 1) (mvS F q 4 k) → Calls Try.prog 13 #[.pointer (some ⟨b.t, 0, none⟩), .int .i64 4, .agg #[.int .i64 V, .int .u8 (Y : Int), .int .u8 (y1 : Int), .int .u8 (y2 : Int), .int .u8 (y3 : Int), .int .u8 (y4 : Int), .int .u8 (y5 : Int)]] W fun e w' => e = .returned (.tuple #[.int .i64 0, .int .i64 0]) ∧ Below W.heap.size W w') := Lib.hid (fun B W hW => mv_call hW HPV.out HQG.out (mvS_ok F q 4 k HNZ.out) 4 (by decide) 4 0 (by rfl) (by rw [show outP (mvS F q 4 k) 4 q = _ from mv_out F q 4 k hk0 4]; kernel_rfl) (by kernel_rfl))
                  have hb9 : bits .andNot .i64 16 16 = 0 := by kernel_rfl
                  go_wp2_with (go_at_call 13; (with_reducible refine (HO.out _ _ HP.out.tab).mono ?_); rintro e w4 ⟨rfl, hb⟩; have HP4 := Lib.hid (HP.out.below hb); clear hb)
                  exact ⟨⟨5, rfl, by omega, HP4.out⟩, by simp [intOf]⟩
                · have HO : Hid (∀ B W, Tab B W b (k + 1) (mvS F q 4 k) → Calls Try.prog 13 #[.pointer (some ⟨b.t, 0, none⟩), .int .i64 5, .agg #[.int .i64 V, .int .u8 (Y : Int), .int .u8 (y1 : Int), .int .u8 (y2 : Int), .int .u8 (y3 : Int), .int .u8 (y4 : Int), .int .u8 (y5 : Int)]] W fun e w' => e = .returned (.tuple #[.int .i64 16, .int .i64 0]) ∧ Below W.heap.size W w') := Lib.hid (fun B W hW => mv_call hW HPV.out HQG.out (mvS_ok F q 4 k HNZ.out) 5 (by decide) 5 16 (by rfl) (by rw [show outP (mvS F q 4 k) 5 q = _ from mv_out F q 4 k hk0 5]; kernel_rfl) (by kernel_rfl))
                  have hb9 : bits .andNot .i64 16 32 = 16 := by kernel_rfl
                  go_wp2_with (go_at_call 13; (with_reducible refine (HO.out _ _ HP.out.tab).mono ?_); rintro e w4 ⟨rfl, hb⟩; have HP4 := Lib.hid (HP.out.below hb); clear hb)
                  exact ⟨⟨6, rfl, by omega, HP4.out⟩, by simp [intOf]⟩
              · rcases this with rfl | rfl | rfl | rfl | rfl | rfl
                · have HO : Hid (∀ B W, Tab B W b (k + 1) (mvS F q 5 k) → Calls Try.prog 13 #[.pointer (some ⟨b.t, 0, none⟩), .int .i64 0, .agg #[.int .i64 V, .int .u8 (Y : Int), .int .u8 (y1 : Int), .int .u8 (y2 : Int), .int .u8 (y3 : Int), .int .u8 (y4 : Int), .int .u8 (y5 : Int)]] W fun e w' => e = .returned (.tuple #[.int .i64 32, .int .i64 0]) ∧ Below W.heap.size W w') := Lib.hid (fun B W hW => mv_call hW HPV.out HQG.out (mvS_ok F q 5 k HNZ.out) 0 (by decide) 0 32 (by rfl) (by rw [show outP (mvS F q 5 k) 0 q = _ from mv_out F q 5 k hk0 0]; kernel_rfl) (by kernel_rfl))
                  have hb9 : bits .andNot .i64 32 1 = 32 := by kernel_rfl
                  go_wp2_with (go_at_call 13; (with_reducible refine (HO.out _ _ HP.out.tab).mono ?_); rintro e w4 ⟨rfl, hb⟩; have HP4 := Lib.hid (HP.out.below hb); clear hb)
                  exact ⟨⟨1, rfl, by omega, HP4.out⟩, by simp [intOf]⟩
                · have HO : Hid (∀ B W, Tab B W b (k + 1) (mvS F q 5 k) → Calls Try.prog 13 #[.pointer (some ⟨b.t, 0, none⟩), .int .i64 1, .agg #[.int .i64 V, .int .u8 (Y : Int), .int .u8 (y1 : Int), .int .u8 (y2 : Int), .int .u8 (y3 : Int), .int .u8 (y4 : Int), .int .u8 (y5 : Int)]] W fun e w' => e = .returned (.tuple #[.int .i64 32, .int .i64 0]) ∧ Below W.heap.size W w') := Lib.hid (fun B W hW => mv_call hW HPV.out HQG.out (mvS_ok F q 5 k HNZ.out) 1 (by decide) 1 32 (by rfl) (by rw [show outP (mvS F q 5 k) 1 q = _ from mv_out F q 5 k hk0 1]; kernel_rfl) (by kernel_rfl))
                  have hb9 : bits .andNot .i64 32 2 = 32 := by kernel_rfl
                  go_wp2_with (go_at_call 13; (with_reducible refine (HO.out _ _ HP.out.tab).mono ?_); rintro e w4 ⟨rfl, hb⟩; have HP4 := Lib.hid (HP.out.below hb); clear hb)
                  exact ⟨⟨2, rfl, by omega, HP4.out⟩, by simp [intOf]⟩
                · have HO : Hid (∀ B W, Tab B W b (k + 1) (mvS F q 5 k) → Calls Try.prog 13 #[.pointer (some ⟨b.t, 0, none⟩), .int .i64 2, .agg #[.int .i64 V, .int .u8 (Y : Int), .int .u8 (y1 : Int), .int .u8 (y2 : Int), .int .u8 (y3 : Int), .int .u8 (y4 : Int), .int .u8 (y5 : Int)]] W fun e w' => e = .returned (.tuple #[.int .i64 32, .int .i64 0]) ∧ Below W.heap.size W w') := Lib.hid (fun B W hW => mv_call hW HPV.out HQG.out (mvS_ok F q 5 k HNZ.out) 2 (by decide) 2 32 (by rfl) (by rw [show outP (mvS F q 5 k) 2 q = _ from mv_out F q 5 k hk0 2]; kernel_rfl) (by kernel_rfl))
                  have hb9 : bits .andNot .i64 32 4 = 32 := by kernel_rfl
                  go_wp2_with (go_at_call 13; (with_reducible refine (HO.out _ _ HP.out.tab).mono ?_); rintro e w4 ⟨rfl, hb⟩; have HP4 := Lib.hid (HP.out.below hb); clear hb)
                  exact ⟨⟨3, rfl, by omega, HP4.out⟩, by simp [intOf]⟩
                · have HO : Hid (∀ B W, Tab B W b (k + 1) (mvS F q 5 k) → Calls Try.prog 13 #[.pointer (some ⟨b.t, 0, none⟩), .int .i64 3, .agg #[.int .i64 V, .int .u8 (Y : Int), .int .u8 (y1 : Int), .int .u8 (y2 : Int), .int .u8 (y3 : Int), .int .u8 (y4 : Int), .int .u8 (y5 : Int)]] W fun e w' => e = .returned (.tuple #[.int .i64 32, .int .i64 0]) ∧ Below W.heap.size W w') := Lib.hid (fun B W hW => mv_call hW HPV.out HQG.out (mvS_ok F q 5 k HNZ.out) 3 (by decide) 3 32 (by rfl) (by rw [show outP (mvS F q 5 k) 3 q = _ from mv_out F q 5 k hk0 3]; kernel_rfl) (by kernel_rfl))
                  have hb9 : bits .andNot .i64 32 8 = 32 := by kernel_rfl
                  go_wp2_with (go_at_call 13; (with_reducible refine (HO.out _ _ HP.out.tab).mono ?_); rintro e w4 ⟨rfl, hb⟩; have HP4 := Lib.hid (HP.out.below hb); clear hb)
                  exact ⟨⟨4, rfl, by omega, HP4.out⟩, by simp [intOf]⟩
                · have HO : Hid (∀ B W, Tab B W b (k + 1) (mvS F q 5 k) → Calls Try.prog 13 #[.pointer (some ⟨b.t, 0, none⟩), .int .i64 4, .agg #[.int .i64 V, .int .u8 (Y : Int), .int .u8 (y1 : Int), .int .u8 (y2 : Int), .int .u8 (y3 : Int), .int .u8 (y4 : Int), .int .u8 (y5 : Int)]] W fun e w' => e = .returned (.tuple #[.int .i64 32, .int .i64 0]) ∧ Below W.heap.size W w') := Lib.hid (fun B W hW => mv_call hW HPV.out HQG.out (mvS_ok F q 5 k HNZ.out) 4 (by decide) 4 32 (by rfl) (by rw [show outP (mvS F q 5 k) 4 q = _ from mv_out F q 5 k hk0 4]; kernel_rfl) (by kernel_rfl))
                  have hb9 : bits .andNot .i64 32 16 = 32 := by kernel_rfl
                  go_wp2_with (go_at_call 13; (with_reducible refine (HO.out _ _ HP.out.tab).mono ?_); rintro e w4 ⟨rfl, hb⟩; have HP4 := Lib.hid (HP.out.below hb); clear hb)
                  exact ⟨⟨5, rfl, by omega, HP4.out⟩, by simp [intOf]⟩
                · have HO : Hid (∀ B W, Tab B W b (k + 1) (mvS F q 5 k) → Calls Try.prog 13 #[.pointer (some ⟨b.t, 0, none⟩), .int .i64 5, .agg #[.int .i64 V, .int .u8 (Y : Int), .int .u8 (y1 : Int), .int .u8 (y2 : Int), .int .u8 (y3 : Int), .int .u8 (y4 : Int), .int .u8 (y5 : Int)]] W fun e w' => e = .returned (.tuple #[.int .i64 0, .int .i64 0]) ∧ Below W.heap.size W w') := Lib.hid (fun B W hW => mv_call hW HPV.out HQG.out (mvS_ok F q 5 k HNZ.out) 5 (by decide) 5 0 (by rfl) (by rw [show outP (mvS F q 5 k) 5 q = _ from mv_out F q 5 k hk0 5]; kernel_rfl) (by kernel_rfl))
                  have hb9 : bits .andNot .i64 32 32 = 0 := by kernel_rfl
                  go_wp2_with (go_at_call 13; (with_reducible refine (HO.out _ _ HP.out.tab).mono ?_); rintro e w4 ⟨rfl, hb⟩; have HP4 := Lib.hid (HP.out.below hb); clear hb)
                  exact ⟨⟨6, rfl, by omega, HP4.out⟩, by simp [intOf]⟩

theorem fdbMoves_holds : Rows.FdbMovesSaid := fdbMoves_of (fun v y0 y1 y2 y3 y4 y5 va n x w _ h0 h1 h2 h3 h4 h5 ha _ => by
  obtain ⟨pa, c, rfl⟩ := ha.slice
  exact moves_any v y0 y1 y2 y3 y4 y5 pa n c x w h0 h1 h2 h3 h4 h5 ha)

end Go.Proofs.Ytnmnodmlakiboaa
