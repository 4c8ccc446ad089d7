/- For every number of ports, VLAN, place, port and slice of ints FdbApart answers true: a frame never goes out where it came in, nor at a port that is not of its VLAN. No condition. -/
import Derived.Test.YtkbodcgamfkegaaFFdbApartM
import Derived.Test.YtkbodcgamfkegaaFdApMath
namespace Go.Proofs.Ytkbodcgamfkegaa
open Go.RowKit Go.Joins Go.Maps Go.MapKept Go.ChangeMaps Go.WideMaps

theorem and_lowA (n : Int) (k : Nat) (hk : k < 63) : bits .and .i64 n ((2 ^ k - 1 : Nat) : Int) = n % ((2 ^ k : Nat) : Int) := by
  have hp : 2 ^ k ≤ 2 ^ 62 := Nat.pow_le_pow_right (by omega) (by omega)
  have hpos := Nat.two_pow_pos k
  have hm : (BitVec.ofInt 64 ((2 ^ k - 1 : Nat) : Int)).toNat = 2 ^ k - 1 := by
    rw [BitVec.toNat_ofInt]; omega
  have hd : (2 ^ k : Nat) ∣ 2 ^ 64 := Nat.pow_dvd_pow 2 (by omega)
  have key : (BitVec.ofInt 64 n &&& BitVec.ofInt 64 ((2 ^ k - 1 : Nat) : Int)).toNat = (n % ((2 ^ 64 : Nat) : Int)).toNat % 2 ^ k := by
    rw [BitVec.toNat_and, BitVec.toNat_ofInt, hm, Nat.and_two_pow_sub_one_eq_mod]
  show IntKind.i64.wrap ((BitVec.ofInt 64 n &&& BitVec.ofInt 64 ((2 ^ k - 1 : Nat) : Int)).toNat : Nat) = _
  rw [key, IntKind.wrap_i64]
  have e : (((n % ((2 ^ 64 : Nat) : Int)).toNat % 2 ^ k : Nat) : Int) = n % ((2 ^ k : Nat) : Int) := by
    rw [Int.natCast_emod, Int.toNat_of_nonneg (Int.emod_nonneg _ (by simp))]
    exact Int.emod_emod_of_dvd _ (Int.natCast_dvd_natCast.2 hd)
  rw [e]
  have h1 := Int.emod_nonneg n (show ((2 ^ k : Nat) : Int) ≠ 0 by omega)
  have h2 := Int.emod_lt_of_pos n (show (0 : Int) < ((2 ^ k : Nat) : Int) by omega)
  generalize n % ((2 ^ k : Nat) : Int) = z at *
  omega
theorem lowA3 (n : Int) : bits .and .i64 n 7 = n % 8 := and_lowA n 3 (by omega)
/-- The law's two boxes, wherever they are read. -/
structure ApB (w W : World) (P U : Int) (p : Pl) : Prop where
  bel : Below w.heap.size w W
  siz : w.heap.size + 2 ≤ W.heap.size
  v : W.heap[w.heap.size]? = some (.cells #[.int .i64 P, .int .i64 U] 50 (0, 0))
  q : W.heap[w.heap.size + 1]? = some (.cells #[.int .i64 p.1, .int .u8 (p.2.y0 : Int), .int .u8 (p.2.y1 : Int), .int .u8 (p.2.y2 : Int), .int .u8 (p.2.y3 : Int), .int .u8 (p.2.y4 : Int), .int .u8 (p.2.y5 : Int)] 42 (0, 0))
theorem ApB.more {w W W' : World} {P U : Int} {p : Pl} {B : Nat} (h : ApB w W P U p) (hB : w.heap.size + 2 ≤ B) (hb : Below B W W') : ApB w W' P U p :=
  ⟨h.bel.trans (hb.mono (by omega)), Nat.le_trans h.siz hb.size, (hb.block _ (by omega)).trans h.v, (hb.block _ (by omega)).trans h.q⟩
theorem ApB.all {w W : World} {P U : Int} {p : Pl} (h : ApB w W P U p) : W.cell? ⟨w.heap.size, 0, none⟩ = some (.int .i64 P) ∧ W.cell? ⟨w.heap.size, 1, none⟩ = some (.int .i64 U) ∧ W.cell? ⟨w.heap.size + 1, 0, none⟩ = some (.int .i64 p.1) ∧ W.cell? ⟨w.heap.size + 1, 1, none⟩ = some (.int .u8 (p.2.y0 : Int)) ∧ W.cell? ⟨w.heap.size + 1, 2, none⟩ = some (.int .u8 (p.2.y1 : Int)) ∧ W.cell? ⟨w.heap.size + 1, 3, none⟩ = some (.int .u8 (p.2.y2 : Int)) ∧ W.cell? ⟨w.heap.size + 1, 4, none⟩ = some (.int .u8 (p.2.y3 : Int)) ∧ W.cell? ⟨w.heap.size + 1, 5, none⟩ = some (.int .u8 (p.2.y4 : Int)) ∧ W.cell? ⟨w.heap.size + 1, 6, none⟩ = some (.int .u8 (p.2.y5 : Int)) :=
  ⟨cell_of_row _ _ 0 _ _ _ h.v, cell_of_row _ _ 1 _ _ _ h.v, cell_of_row _ _ 0 _ _ _ h.q, cell_of_row _ _ 1 _ _ _ h.q, cell_of_row _ _ 2 _ _ _ h.q, cell_of_row _ _ 3 _ _ _ h.q, cell_of_row _ _ 4 _ _ _ h.q, cell_of_row _ _ 5 _ _ _ h.q, cell_of_row _ _ 6 _ _ _ h.q⟩
theorem ApB.new (w : World) (P U : Int) (p : Pl) : ApB w ((w.alloc (.cells #[.int .i64 P, .int .i64 U] 50)).alloc (.cells #[.int .i64 p.1, .int .u8 (p.2.y0 : Int), .int .u8 (p.2.y1 : Int), .int .u8 (p.2.y2 : Int), .int .u8 (p.2.y3 : Int), .int .u8 (p.2.y4 : Int), .int .u8 (p.2.y5 : Int)] 42)) P U p :=
  ⟨bAl (bAl (bRef w) _) _, by simp, (heap_alloc_old _ _ (r := w.heap.size) (by simp)).trans (heap_alloc_one w _), by
    have := heap_alloc_one (w.alloc (.cells #[.int .i64 P, .int .i64 U] 50)) (.cells #[.int .i64 p.1, .int .u8 (p.2.y0 : Int), .int .u8 (p.2.y1 : Int), .int .u8 (p.2.y2 : Int), .int .u8 (p.2.y3 : Int), .int .u8 (p.2.y4 : Int), .int .u8 (p.2.y5 : Int)] 42)
    simpa using this⟩
theorem and_zeroL (P : Int) : bits .andNot .i64 0 P = 0 := by
  show IntKind.i64.wrap ((BitVec.ofInt 64 0 &&& ~~~ BitVec.ofInt 64 P).toNat : Nat) = 0
  rw [show (BitVec.ofInt 64 0 : BitVec 64) = 0#64 by rfl, BitVec.zero_and]
  rfl
theorem and_zeroR (U : Int) : bits .and .i64 0 U = 0 := by
  show IntKind.i64.wrap ((BitVec.ofInt 64 0 &&& BitVec.ofInt 64 U).toNat : Nat) = 0
  rw [show (BitVec.ofInt 64 0 : BitVec 64) = 0#64 by rfl, BitVec.zero_and]
  rfl
theorem ap_before {B N m : Nat} {W : World} {b : TB} {F : Nat → Int} {P U : Int} {p : Pl} (h : Tab B W b m ⟨N, 50, F, apV p.1 P U, [], []⟩) (hp : p.Good) (hU : P = 0 → U = 0) (hN : N ≤ 8) (a : Nat) (ha : a < N) : Calls Try.prog 11 #[.pointer (some ⟨b.t, 0, none⟩), .int .i64 (a : Int), PV p] W fun e w' => e = .returned (.tuple #[.int .i64 (bits .andNot .i64 P ((2 ^ a : Nat) : Int)), .int .i64 (bits .and .i64 (bits .andNot .i64 P ((2 ^ a : Nat) : Int)) U)]) ∧ Below W.heap.size W w' := by
  have k := out_any h a ha p hp (ApE.okE (p := p) (.inl rfl) hN F _)
  rw [ap_out0 F hU a, ap_vlan hU] at k
  exact k
theorem ap_behind {B N m : Nat} {W : World} {b : TB} {F : Nat → Int} {P U : Int} {p : Pl} {E : List (Pl × (Int × Int))} (h : Tab B W b m ⟨N, 50, F, apV p.1 P U, [], E⟩) (hE : ApE p N E) (hp : p.Good) (hU : P = 0 → U = 0) (hN : N ≤ 8) (a : Nat) (ha : a < N) : Calls Try.prog 11 #[.pointer (some ⟨b.t, 0, none⟩), .int .i64 (a : Int), PV p] W fun e w' => e = .returned (.tuple #[.int .i64 (outP ⟨N, 50, F, apV p.1 P U, [], E⟩ a p), .int .i64 (bits .and .i64 (outP ⟨N, 50, F, apV p.1 P U, [], E⟩ a p) U)]) ∧ Below W.heap.size W w' := by
  have k := out_any h a ha p hp (hE.okE hN F _)
  rw [ap_vlan hU] at k
  exact k
def ApRel (B : Nat) (w : World) (b : TB) (N : Nat) (F : Nat → Int) (P U : Int) (p : Pl) (n : Nat) (kv : Value) (wr : World) : Prop :=
  ∃ (k m : Nat) (E : List (Pl × (Int × Int))), kv = .int .i64 (k : Int) ∧ k ≤ n ∧ m ≤ 2 + k ∧ m ≤ 30 ∧ Tab B wr b m ⟨N, 50, F, apV p.1 P U, [], E⟩ ∧ ApE p N E ∧ ApB w wr P U p ∧ B ≤ wr.heap.size
set_option maxRecDepth 20000 in
set_option maxHeartbeats 8000000 in
theorem apart_law (x0 P U : Int) (p : Pl) (hp : p.Good) (hPi : In64 P) (hUi : In64 U) (x3 : Int) (pa : Option Addr) (n c : Nat) (hn : n ≤ 9223372036854775807) (w : World) (ha : SlArg 1 Okint w (.slice pa n c) n) :
    Calls Try.prog 4 #[.int .i64 x0, .agg #[.int .i64 P, .int .i64 U], PV p, .int .i64 x3, .slice pa n c] w fun e w' => e = .returned (.bool true) ∧ Below w.heap.size w w' := by
  have HH := Lib.hid head_ret
  have l1 := lowA3 x0
  obtain ⟨Z, hZ⟩ : ∃ Z : Nat, x0 % 8 = (Z : Int) := ⟨(x0 % 8).toNat, by omega⟩
  have hZ8 : Z < 8 := by omega
  rw [hZ] at l1
  have HZ8 := Lib.hid hZ8
  have e1 : wrap64 (1 + (Z : Int)) = 1 + (Z : Int) := by unfold wrap64; omega
  have HA := Lib.hid ha
  have HNN := Lib.hid hn
  have HPG := Lib.hid hp
  have HN : Hid (∀ W, Calls Try.prog 8 #[.int .i64 (1 + (Z : Int)), .int .i64 50] W fun e w' => ∃ b F, e = .returned (.tuple #[.pointer (some ⟨b.t, 0, none⟩), .int .i64 0]) ∧ Tab W.heap.size w' b 0 ⟨Z + 1, 50, F, [], [], []⟩ ∧ Below W.heap.size W w') := Lib.hid (fun W => by
    have k := new_ok (Z + 1) 50 W (by omega) (by omega) (by decide) (by decide)
    rw [show ((Z + 1 : Nat) : Int) = 1 + (Z : Int) by omega] at k
    exact k)
  have HA0 := Lib.hid (ApB.new w P U p)
  by_cases hbad : vlanBad (Z + 1) p.1 P U
  · have HS : Hid (∀ B W b F, Tab B W b 0 ⟨Z + 1, 50, F, [], [], []⟩ → Calls Try.prog 17 #[.pointer (some ⟨b.t, 0, none⟩), .int .i64 p.1, .agg #[.int .i64 P, .int .i64 U]] W fun e w' => e = .returned (.int .i64 1) ∧ Below W.heap.size W w') := Lib.hid (fun B W b F h => setVlan_bad h p.1 P U hbad)
    clear hZ hZ8 ha hn hp hPi hUi hbad
    go_enter Try.func4, Try.ntmps4
    go_wp2_with (first
      | (go_at_call 7; (with_reducible refine (HH.out _).mono ?_); rintro e w1 ⟨rfl, hb⟩; have HB1 := Lib.hid (HA0.out.more HA0.out.siz hb); clear hb)
      | (go_at_call 8; (with_reducible refine (HN.out _).mono ?_); rintro e w2 ⟨b, F, rfl, ht, hb⟩; have HT2 := Lib.hid ht; have HB2 := Lib.hid (HB1.out.more HB1.out.siz hb); obtain ⟨q0, q1, q2, -⟩ := HB2.out.all; clear ht hb)
      | (go_at_call 17; (with_reducible refine (HS.out _ _ b F HT2.out).mono ?_); rintro e w3 ⟨rfl, hb⟩; have HB3 := Lib.hid (HB2.out.bel.trans (hb.mono HB2.out.bel.size)); clear hb))
    go_ret
    exact ⟨rfl, HB3.out⟩
  have hgood : (1 ≤ p.1 ∧ p.1 ≤ 4094) ∧ (0 ≤ P ∧ P < ((2 ^ (Z + 1) : Nat) : Int)) ∧ bits .andNot .i64 U P = 0 := by
    unfold vlanBad at hbad
    refine ⟨by omega, Decidable.byContradiction fun e => hbad (.inr (.inr (.inl e))), Decidable.byContradiction fun e => hbad (.inr (.inr (.inr e)))⟩
  have hU0 : P = 0 → U = 0 := fun e => andNot_zero hUi (by have h9 := hgood.2.2; rw [e] at h9; exact h9)
  have hP256 : P < 256 := by
    have h1 : (2 : Nat) ^ (Z + 1) ≤ 2 ^ 8 := Nat.pow_le_pow_right (by omega) (by omega)
    have h2 := hgood.2.1.2
    omega
  have HP := Lib.hid (show 0 ≤ P ∧ P < 256 from ⟨hgood.2.1.1, hP256⟩)
  have HU := Lib.hid hU0
  have HV := Lib.hid hgood.1
  have HS : Hid (∀ B W b F, B ≤ W.heap.size → Tab B W b 0 ⟨Z + 1, 50, F, [], [], []⟩ → Calls Try.prog 17 #[.pointer (some ⟨b.t, 0, none⟩), .int .i64 p.1, .agg #[.int .i64 P, .int .i64 U]] W fun e w' => e = .returned (.int .i64 0) ∧ Tab B w' b 1 ⟨Z + 1, 50, F, apV p.1 P U, [], []⟩ ∧ Below B W w') := Lib.hid (fun B W b F hB h => by
    unfold apV
    by_cases h0 : P = 0
    · rw [if_pos h0]
      subst h0
      exact (setVlan_del h p.1 U hgood.1.1 hgood.1.2 hgood.2.2).mono fun e w' ⟨e1, e2, e3⟩ => ⟨e1, ⟨e2.row, e2.prt, e2.mv.mono (by omega), e2.ms.mono (by omega), e2.me.mono (by omega), e2.n0, e2.n8, e2.bt, e2.bp, e2.bv, e2.bs, e2.be, e2.vs, e2.ve, e2.se⟩, e3.below h.bv h.lt.2.2.1⟩
    · rw [if_neg h0]
      exact (setVlan_ok h (by decide) p.1 P U hgood.1.1 hgood.1.2 (by omega) hgood.2.1.2 hgood.2.2).mono fun e w' ⟨e1, e2, e3⟩ => ⟨e1, e2, e3.below h.bv h.lt.2.2.1⟩)
  clear hbad hgood hU0 hP256 hZ hZ8 ha hn hp hPi hUi
  by_cases hin : 0 ≤ x3 ∧ x3 < (Z : Int) + 1
  · obtain ⟨a, rfl⟩ : ∃ a : Nat, x3 = (a : Int) := ⟨x3.toNat, by omega⟩
    have haZ : a < Z + 1 := by omega
    have HAZ := Lib.hid haZ
    have da : decide ((a : Int) ≤ (Z : Int)) = true := decide_eq_true (by omega)
    have dan : decide (a ≤ Z) = true := decide_eq_true (by omega)
    have i1 : (0 : Int) ≤ (a : Int) := by omega
    have emin : min (IntKind.u64.wrap (a : Int)).toNat 64 = a := by
      have e64 : IntKind.u64.wrap (a : Int) = (a : Int) := by have := HZ8.out; rw [IntKind.wrap_u64]; omega
      rw [e64]; have := HZ8.out; omega
    have epow : wrap64 ((2 : Int) ^ a) = (2 : Int) ^ a := by
      have h7 : (2 : Nat) ^ a ≤ 2 ^ 7 := Nat.pow_le_pow_right (by omega) (by have := HZ8.out; omega)
      have h8 : (2 : Int) ^ a = ((2 ^ a : Nat) : Int) := by push_cast; rfl
      have h9 := Nat.two_pow_pos a
      rw [h8]
      unfold wrap64
      omega
    have HO1 : Hid (∀ B W b F, Tab B W b 1 ⟨Z + 1, 50, F, apV p.1 P U, [], []⟩ → Calls Try.prog 11 #[.pointer (some ⟨b.t, 0, none⟩), .int .i64 (a : Int), PV p] W fun e w' => e = .returned (.tuple #[.int .i64 (bits .andNot .i64 P ((2 ^ a : Nat) : Int)), .int .i64 (bits .and .i64 (bits .andNot .i64 P ((2 ^ a : Nat) : Int)) U)]) ∧ Below W.heap.size W w') := Lib.hid (fun B W b F h => ap_before h HPG.out HU.out (by have := HZ8.out; omega) a HAZ.out)
    clear hin haZ
    go_enter Try.func4, Try.ntmps4
    go_wp2_with (first
      | (go_at_call 7; (with_reducible refine (HH.out _).mono ?_); rintro e w1 ⟨rfl, hb⟩; have HB1 := Lib.hid (HA0.out.more HA0.out.siz hb); have HS1 := Lib.hid HB1.out.siz; clear hb)
      | (go_at_call 8; (with_reducible refine (HN.out _).mono ?_); rintro e w2 ⟨b, F, rfl, ht, hb⟩; have HT2 := Lib.hid ht; have HZ2 := Lib.hid hb.size; have HB2 := Lib.hid (HB1.out.more HB1.out.siz hb); obtain ⟨q0, q1, q2, -⟩ := HB2.out.all; clear ht hb)
      | (go_at_call 17; (with_reducible refine (HS.out _ _ b F HZ2.out HT2.out).mono ?_); rintro e w3 ⟨rfl, ht, hb⟩; have HT3 := Lib.hid ht; have HB3 := Lib.hid (HB2.out.more HB1.out.siz hb); have HZ3 := Lib.hid (Nat.le_trans HZ2.out hb.size); obtain ⟨r0, r1, r2, r3, r4, r5, r6, r7, r8⟩ := HB3.out.all; clear ht hb)
      | (go_at_call 11; (with_reducible refine (HO1.out _ _ b F HT3.out).mono ?_); rintro e w4 ⟨rfl, hb⟩; have HT4 := Lib.hid (HT3.out.below hb); have HB4 := Lib.hid (HB3.out.more HB3.out.siz hb); have HZ4 := Lib.hid (Nat.le_trans HZ3.out hb.size); obtain ⟨t0, t1, t2, t3, t4, t5, t6, t7, t8⟩ := HB4.out.all; clear hb))
    have HEM := Lib.hid emin
    have HEP := Lib.hid epow
    clear HN HS HH HO1 HA0 HT2 HB2 HB1 emin epow e1
    go_loopw [67] (fun kv wr => ApRel w1.heap.size w b (Z + 1) F P U p n kv wr) (fun kv _ => n - (intOf kv).toNat)
    case atStart => exact ⟨0, 1, [], rfl, by omega, by omega, by omega, HT4.out, .inl rfl, HB4.out, HZ4.out⟩
    case round =>
      have HW1 : Hid (w.heap.size + 2 ≤ w1.heap.size) := Lib.hid HS1.out
      clear HT3 HB3 HT4 HB4 HZ2 HZ3 HZ4 r0 r1 r2 r3 r4 r5 r6 r7 r8 t0 t1 t2 t3 t4 t5 t6 t7 t8 q0 q1 q2
      obtain ⟨k, m, E, rfl, hk, hm, hm30, ht, hE, hap, hz⟩ := hrel
      have HTb := Lib.hid ht
      have HE := Lib.hid hE
      have HAp := Lib.hid hap
      have HZ := Lib.hid hz
      have hn := HNN.out
      clear ht hE hap hz
      rcases Nat.lt_or_ge k n with g1 | g1
      · have hd : decide ((k : Int) < (n : Int)) = true := decide_eq_true (by omega)
        have i2 : (0 : Int) ≤ (k : Int) := by omega
        obtain ⟨ab, o, G, rfl, hab, hG⟩ := SlArg.at HA.out (by omega)
        obtain ⟨⟨z0, hz0, b0⟩, hlen, hc⟩ := hG k g1
        rw [hz0] at hc
        have c0 := (HAp.out.bel.cell (p := ⟨ab, o + k * 1 + 0, none⟩) hab).trans (hc 0 (by omega))
        rw [Nat.add_zero, Nat.mul_one] at c0
        simp only [List.getElem?_cons_zero] at c0
        have ek : wrap64 ((k : Int) + 1) = (k : Int) + 1 := by unfold wrap64; omega
        obtain ⟨q0, q1, q2, q3, q4, q5, q6, q7, q8⟩ := HAp.out.all
        clear hG hc hlen hz0 G hab b0
        by_cases g2 : k < 20
        · have hd2 : decide ((k : Int) < 20) = true := decide_eq_true (by omega)
          have HLe := Lib.hid (learn_all HTb.out (by omega) p HPG.out HV.out.1 HV.out.2 z0 (k : Int) rfl (ApE.okE HE.out (by have := HZ8.out; omega) F _) (by show ((0 + E.length : Nat) : Int) < 50; have := HE.out.len; omega))
          have HK := Lib.hid (show k + 1 ≤ n ∧ m + 1 ≤ 2 + (k + 1) ∧ m + 1 ≤ 30 from ⟨by omega, by omega, by omega⟩)
          go_wp2_with (go_at_call 15; (with_reducible refine (HLe.out).mono ?_); rintro e y1 ⟨⟨g9, rfl⟩, E', hE', ht, hb⟩; have HT1 := Lib.hid ht; have hb1 := hb.below HTb.out.be HTb.out.lt.2.2.2.2; have HA1 := Lib.hid (HAp.out.more HW1.out hb1); have HZ1 := Lib.hid (Nat.le_trans HZ.out hb1.size); have HE1 : Hid (ApE p (Z + 1) E') := Lib.hid (by rcases hE' with rfl | ⟨h1, h2, rfl⟩; exact HE.out; exact HE.out.put h1 h2); clear hE' ht hb hb1)
          go_roundw
          case rel => exact ⟨k + 1, m + 1, E', by go_num, HK.out.1, HK.out.2.1, HK.out.2.2, HT1.out, HE1.out, HA1.out, HZ1.out⟩
          case measure => simp [intOf]; omega
        · have hd2 : decide ((k : Int) < 20) = false := decide_eq_false (by omega)
          have HK := Lib.hid (show k + 1 ≤ n ∧ m ≤ 2 + (k + 1) ∧ m ≤ 30 from ⟨by omega, by omega, by omega⟩)
          go_wp2_with fail
          go_roundw
          case rel => exact ⟨k + 1, m, E, by go_num, HK.out.1, HK.out.2.1, HK.out.2.2, HTb.out, HE.out, HAp.out, HZ.out⟩
          case measure => simp [intOf]; omega
      · obtain rfl : n = k := by omega
        have hd : decide ((n : Int) < (n : Int)) = false := decide_eq_false (by omega)
        have HR : Hid (bits .andNot .i64 (outP ⟨Z + 1, 50, F, apV p.1 P U, [], E⟩ a p) P = 0 ∧ bits .and .i64 (outP ⟨Z + 1, 50, F, apV p.1 P U, [], E⟩ a p / ((2 ^ a : Nat) : Int)) 1 = 0 ∧ 0 ≤ outP ⟨Z + 1, 50, F, apV p.1 P U, [], E⟩ a p ∧ outP ⟨Z + 1, 50, F, apV p.1 P U, [], E⟩ a p < 256) := Lib.hid (ap_out HE.out (by have := HZ8.out; omega) F HP.out HU.out (by have := HAZ.out; have := HZ8.out; omega))
        have HO2 : Hid (Calls Try.prog 11 #[.pointer (some ⟨b.t, 0, none⟩), .int .i64 (a : Int), PV p] wr fun e w' => e = .returned (.tuple #[.int .i64 (outP ⟨Z + 1, 50, F, apV p.1 P U, [], E⟩ a p), .int .i64 (bits .and .i64 (outP ⟨Z + 1, 50, F, apV p.1 P U, [], E⟩ a p) U)]) ∧ Below wr.heap.size wr w') := Lib.hid (ap_behind HTb.out HE.out HPG.out HU.out (by have := HZ8.out; omega) a HAZ.out)
        generalize outP ⟨Z + 1, 50, F, apV p.1 P U, [], E⟩ a p = R at *
        obtain ⟨r1, r2, r3, r4⟩ := HR.out
        have r2n : bits .and .i64 (R / (2 : Int) ^ a) 1 = 0 := by have h := r2; push_cast at h; exact h
        obtain ⟨q0, q1, q2, q3, q4, q5, q6, q7, q8⟩ := HAp.out.all
        have dlt : decide ((a : Int) < 0) = false := decide_eq_false (by omega)
        have dgt : decide ((Z : Int) < (a : Int)) = false := decide_eq_false (by have := HAZ.out; omega)
        have dgtn : decide (Z < a) = false := decide_eq_false (by have := HAZ.out; omega)
        have emin := HEM.out
        have epow := HEP.out
        go_wp2_with (go_at_call 11; (with_reducible refine (HO2.out).mono ?_); rintro e y5 ⟨rfl, hb⟩; have HB5 := Lib.hid (HAp.out.more HAp.out.siz hb); obtain ⟨s0, s1, s2, s3, s4, s5, s6, s7, s8⟩ := HB5.out.all; clear hb)
        go_ret
        exact ⟨rfl, HB5.out.bel⟩
  · have HX3 := Lib.hid hin
    have HZ1 : Hid (bits .andNot .i64 0 P = 0) := Lib.hid (and_zeroL P)
    have HZ2b : Hid (bits .and .i64 0 U = 0) := Lib.hid (and_zeroR U)
    have HO1 : Hid (∀ B W b F, Tab B W b 1 ⟨Z + 1, 50, F, apV p.1 P U, [], []⟩ → Calls Try.prog 11 #[.pointer (some ⟨b.t, 0, none⟩), .int .i64 x3, PV p] W fun e w' => e = .returned (.tuple #[.int .i64 0, .int .i64 0]) ∧ Below W.heap.size W w') := Lib.hid (fun B W b F h => out_none h x3 (by show ¬ (0 ≤ x3 ∧ x3 < ((Z + 1 : Nat) : Int)); have := HX3.out; omega) p)
    by_cases hneg : x3 < 0
    · have da : decide (0 ≤ x3) = false := decide_eq_false (by omega)
      have dlt : decide (x3 < 0) = true := decide_eq_true hneg
      clear hin hneg
      go_enter Try.func4, Try.ntmps4
      go_wp2_with (first
        | (go_at_call 7; (with_reducible refine (HH.out _).mono ?_); rintro e w1 ⟨rfl, hb⟩; have HB1 := Lib.hid (HA0.out.more HA0.out.siz hb); have HS1 := Lib.hid HB1.out.siz; clear hb)
        | (go_at_call 8; (with_reducible refine (HN.out _).mono ?_); rintro e w2 ⟨b, F, rfl, ht, hb⟩; have HT2 := Lib.hid ht; have HZ2 := Lib.hid hb.size; have HB2 := Lib.hid (HB1.out.more HB1.out.siz hb); obtain ⟨q0, q1, q2, -⟩ := HB2.out.all; clear ht hb)
        | (go_at_call 17; (with_reducible refine (HS.out _ _ b F HZ2.out HT2.out).mono ?_); rintro e w3 ⟨rfl, ht, hb⟩; have HT3 := Lib.hid ht; have HB3 := Lib.hid (HB2.out.more HB1.out.siz hb); have HZ3 := Lib.hid (Nat.le_trans HZ2.out hb.size); obtain ⟨r0, r1, r2, r3, r4, r5, r6, r7, r8⟩ := HB3.out.all; clear ht hb)
        | (go_at_call 11; (with_reducible refine (HO1.out _ _ b F HT3.out).mono ?_); rintro e w4 ⟨rfl, hb⟩; have HT4 := Lib.hid (HT3.out.below hb); have HB4 := Lib.hid (HB3.out.more HB3.out.siz hb); have HZ4 := Lib.hid (Nat.le_trans HZ3.out hb.size); obtain ⟨t0, t1, t2, t3, t4, t5, t6, t7, t8⟩ := HB4.out.all; clear hb))
      clear HN HS HH HA0 HT2 HB2 HB1 e1
      go_loopw [67] (fun kv wr => ApRel w1.heap.size w b (Z + 1) F P U p n kv wr) (fun kv _ => n - (intOf kv).toNat)
      case atStart => exact ⟨0, 1, [], rfl, by omega, by omega, by omega, HT4.out, .inl rfl, HB4.out, HZ4.out⟩
      case round =>
        have HW1 : Hid (w.heap.size + 2 ≤ w1.heap.size) := Lib.hid HS1.out
        clear HT3 HB3 HT4 HB4 HZ2 HZ3 HZ4 r0 r1 r2 r3 r4 r5 r6 r7 r8 t0 t1 t2 t3 t4 t5 t6 t7 t8 q0 q1 q2
        obtain ⟨k, m, E, rfl, hk, hm, hm30, ht, hE, hap, hz⟩ := hrel
        have HTb := Lib.hid ht
        have HE := Lib.hid hE
        have HAp := Lib.hid hap
        have HZ := Lib.hid hz
        have hn := HNN.out
        clear ht hE hap hz
        rcases Nat.lt_or_ge k n with g1 | g1
        · have hd : decide ((k : Int) < (n : Int)) = true := decide_eq_true (by omega)
          have i2 : (0 : Int) ≤ (k : Int) := by omega
          obtain ⟨ab, o, G, rfl, hab, hG⟩ := SlArg.at HA.out (by omega)
          obtain ⟨⟨z0, hz0, b0⟩, hlen, hc⟩ := hG k g1
          rw [hz0] at hc
          have c0 := (HAp.out.bel.cell (p := ⟨ab, o + k * 1 + 0, none⟩) hab).trans (hc 0 (by omega))
          rw [Nat.add_zero, Nat.mul_one] at c0
          simp only [List.getElem?_cons_zero] at c0
          have ek : wrap64 ((k : Int) + 1) = (k : Int) + 1 := by unfold wrap64; omega
          obtain ⟨q0, q1, q2, q3, q4, q5, q6, q7, q8⟩ := HAp.out.all
          clear hG hc hlen hz0 G hab b0
          by_cases g2 : k < 20
          · have hd2 : decide ((k : Int) < 20) = true := decide_eq_true (by omega)
            have HLe := Lib.hid (learn_all HTb.out (by omega) p HPG.out HV.out.1 HV.out.2 z0 (k : Int) rfl (ApE.okE HE.out (by have := HZ8.out; omega) F _) (by show ((0 + E.length : Nat) : Int) < 50; have := HE.out.len; omega))
            have HK := Lib.hid (show k + 1 ≤ n ∧ m + 1 ≤ 2 + (k + 1) ∧ m + 1 ≤ 30 from ⟨by omega, by omega, by omega⟩)
            go_wp2_with (go_at_call 15; (with_reducible refine (HLe.out).mono ?_); rintro e y1 ⟨⟨g9, rfl⟩, E', hE', ht, hb⟩; have HT1 := Lib.hid ht; have hb1 := hb.below HTb.out.be HTb.out.lt.2.2.2.2; have HA1 := Lib.hid (HAp.out.more HW1.out hb1); have HZ1 := Lib.hid (Nat.le_trans HZ.out hb1.size); have HE1 : Hid (ApE p (Z + 1) E') := Lib.hid (by rcases hE' with rfl | ⟨h1, h2, rfl⟩; exact HE.out; exact HE.out.put h1 h2); clear hE' ht hb hb1)
            go_roundw
            case rel => exact ⟨k + 1, m + 1, E', by go_num, HK.out.1, HK.out.2.1, HK.out.2.2, HT1.out, HE1.out, HA1.out, HZ1.out⟩
            case measure => simp [intOf]; omega
          · have hd2 : decide ((k : Int) < 20) = false := decide_eq_false (by omega)
            have HK := Lib.hid (show k + 1 ≤ n ∧ m ≤ 2 + (k + 1) ∧ m ≤ 30 from ⟨by omega, by omega, by omega⟩)
            go_wp2_with fail
            go_roundw
            case rel => exact ⟨k + 1, m, E, by go_num, HK.out.1, HK.out.2.1, HK.out.2.2, HTb.out, HE.out, HAp.out, HZ.out⟩
            case measure => simp [intOf]; omega
        · obtain rfl : n = k := by omega
          have hd : decide ((n : Int) < (n : Int)) = false := decide_eq_false (by omega)
          have HO2 : Hid (Calls Try.prog 11 #[.pointer (some ⟨b.t, 0, none⟩), .int .i64 x3, PV p] wr fun e w' => e = .returned (.tuple #[.int .i64 0, .int .i64 0]) ∧ Below wr.heap.size wr w') := Lib.hid (out_none HTb.out x3 (by show ¬ (0 ≤ x3 ∧ x3 < ((Z + 1 : Nat) : Int)); have := HX3.out; omega) p)
          obtain ⟨q0, q1, q2, q3, q4, q5, q6, q7, q8⟩ := HAp.out.all
          have z1 : bits .andNot .i64 0 P = 0 := HZ1.out
          have z2 : bits .and .i64 0 U = 0 := HZ2b.out
          go_wp2_with (go_at_call 11; (with_reducible refine (HO2.out).mono ?_); rintro e y5 ⟨rfl, hb⟩; have HB5 := Lib.hid (HAp.out.more HAp.out.siz hb); obtain ⟨s0, s1, s2, s3, s4, s5, s6, s7, s8⟩ := HB5.out.all; clear hb)
          go_ret
          exact ⟨rfl, HB5.out.bel⟩
    · have da : decide (0 ≤ x3) = true := decide_eq_true (by omega)
      have db : decide (x3 ≤ (Z : Int)) = false := decide_eq_false (by omega)
      have dlt : decide (x3 < 0) = false := decide_eq_false hneg
      have dgt : decide ((Z : Int) < x3) = true := decide_eq_true (by omega)
      clear hin hneg
      go_enter Try.func4, Try.ntmps4
      go_wp2_with (first
        | (go_at_call 7; (with_reducible refine (HH.out _).mono ?_); rintro e w1 ⟨rfl, hb⟩; have HB1 := Lib.hid (HA0.out.more HA0.out.siz hb); have HS1 := Lib.hid HB1.out.siz; clear hb)
        | (go_at_call 8; (with_reducible refine (HN.out _).mono ?_); rintro e w2 ⟨b, F, rfl, ht, hb⟩; have HT2 := Lib.hid ht; have HZ2 := Lib.hid hb.size; have HB2 := Lib.hid (HB1.out.more HB1.out.siz hb); obtain ⟨q0, q1, q2, -⟩ := HB2.out.all; clear ht hb)
        | (go_at_call 17; (with_reducible refine (HS.out _ _ b F HZ2.out HT2.out).mono ?_); rintro e w3 ⟨rfl, ht, hb⟩; have HT3 := Lib.hid ht; have HB3 := Lib.hid (HB2.out.more HB1.out.siz hb); have HZ3 := Lib.hid (Nat.le_trans HZ2.out hb.size); obtain ⟨r0, r1, r2, r3, r4, r5, r6, r7, r8⟩ := HB3.out.all; clear ht hb)
        | (go_at_call 11; (with_reducible refine (HO1.out _ _ b F HT3.out).mono ?_); rintro e w4 ⟨rfl, hb⟩; have HT4 := Lib.hid (HT3.out.below hb); have HB4 := Lib.hid (HB3.out.more HB3.out.siz hb); have HZ4 := Lib.hid (Nat.le_trans HZ3.out hb.size); obtain ⟨t0, t1, t2, t3, t4, t5, t6, t7, t8⟩ := HB4.out.all; clear hb))
      clear HN HS HH HA0 HT2 HB2 HB1 e1
      go_loopw [67] (fun kv wr => ApRel w1.heap.size w b (Z + 1) F P U p n kv wr) (fun kv _ => n - (intOf kv).toNat)
      case atStart => exact ⟨0, 1, [], rfl, by omega, by omega, by omega, HT4.out, .inl rfl, HB4.out, HZ4.out⟩
      case round =>
        have HW1 : Hid (w.heap.size + 2 ≤ w1.heap.size) := Lib.hid HS1.out
        clear HT3 HB3 HT4 HB4 HZ2 HZ3 HZ4 r0 r1 r2 r3 r4 r5 r6 r7 r8 t0 t1 t2 t3 t4 t5 t6 t7 t8 q0 q1 q2
        obtain ⟨k, m, E, rfl, hk, hm, hm30, ht, hE, hap, hz⟩ := hrel
        have HTb := Lib.hid ht
        have HE := Lib.hid hE
        have HAp := Lib.hid hap
        have HZ := Lib.hid hz
        have hn := HNN.out
        clear ht hE hap hz
        rcases Nat.lt_or_ge k n with g1 | g1
        · have hd : decide ((k : Int) < (n : Int)) = true := decide_eq_true (by omega)
          have i2 : (0 : Int) ≤ (k : Int) := by omega
          obtain ⟨ab, o, G, rfl, hab, hG⟩ := SlArg.at HA.out (by omega)
          obtain ⟨⟨z0, hz0, b0⟩, hlen, hc⟩ := hG k g1
          rw [hz0] at hc
          have c0 := (HAp.out.bel.cell (p := ⟨ab, o + k * 1 + 0, none⟩) hab).trans (hc 0 (by omega))
          rw [Nat.add_zero, Nat.mul_one] at c0
          simp only [List.getElem?_cons_zero] at c0
          have ek : wrap64 ((k : Int) + 1) = (k : Int) + 1 := by unfold wrap64; omega
          obtain ⟨q0, q1, q2, q3, q4, q5, q6, q7, q8⟩ := HAp.out.all
          clear hG hc hlen hz0 G hab b0
          by_cases g2 : k < 20
          · have hd2 : decide ((k : Int) < 20) = true := decide_eq_true (by omega)
            have HLe := Lib.hid (learn_all HTb.out (by omega) p HPG.out HV.out.1 HV.out.2 z0 (k : Int) rfl (ApE.okE HE.out (by have := HZ8.out; omega) F _) (by show ((0 + E.length : Nat) : Int) < 50; have := HE.out.len; omega))
            have HK := Lib.hid (show k + 1 ≤ n ∧ m + 1 ≤ 2 + (k + 1) ∧ m + 1 ≤ 30 from ⟨by omega, by omega, by omega⟩)
            go_wp2_with (go_at_call 15; (with_reducible refine (HLe.out).mono ?_); rintro e y1 ⟨⟨g9, rfl⟩, E', hE', ht, hb⟩; have HT1 := Lib.hid ht; have hb1 := hb.below HTb.out.be HTb.out.lt.2.2.2.2; have HA1 := Lib.hid (HAp.out.more HW1.out hb1); have HZ1 := Lib.hid (Nat.le_trans HZ.out hb1.size); have HE1 : Hid (ApE p (Z + 1) E') := Lib.hid (by rcases hE' with rfl | ⟨h1, h2, rfl⟩; exact HE.out; exact HE.out.put h1 h2); clear hE' ht hb hb1)
            go_roundw
            case rel => exact ⟨k + 1, m + 1, E', by go_num, HK.out.1, HK.out.2.1, HK.out.2.2, HT1.out, HE1.out, HA1.out, HZ1.out⟩
            case measure => simp [intOf]; omega
          · have hd2 : decide ((k : Int) < 20) = false := decide_eq_false (by omega)
            have HK := Lib.hid (show k + 1 ≤ n ∧ m ≤ 2 + (k + 1) ∧ m ≤ 30 from ⟨by omega, by omega, by omega⟩)
            go_wp2_with fail
            go_roundw
            case rel => exact ⟨k + 1, m, E, by go_num, HK.out.1, HK.out.2.1, HK.out.2.2, HTb.out, HE.out, HAp.out, HZ.out⟩
            case measure => simp [intOf]; omega
        · obtain rfl : n = k := by omega
          have hd : decide ((n : Int) < (n : Int)) = false := decide_eq_false (by omega)
          have HO2 : Hid (Calls Try.prog 11 #[.pointer (some ⟨b.t, 0, none⟩), .int .i64 x3, PV p] wr fun e w' => e = .returned (.tuple #[.int .i64 0, .int .i64 0]) ∧ Below wr.heap.size wr w') := Lib.hid (out_none HTb.out x3 (by show ¬ (0 ≤ x3 ∧ x3 < ((Z + 1 : Nat) : Int)); have := HX3.out; omega) p)
          obtain ⟨q0, q1, q2, q3, q4, q5, q6, q7, q8⟩ := HAp.out.all
          have z1 : bits .andNot .i64 0 P = 0 := HZ1.out
          have z2 : bits .and .i64 0 U = 0 := HZ2b.out
          go_wp2_with (go_at_call 11; (with_reducible refine (HO2.out).mono ?_); rintro e y5 ⟨rfl, hb⟩; have HB5 := Lib.hid (HAp.out.more HAp.out.siz hb); obtain ⟨s0, s1, s2, s3, s4, s5, s6, s7, s8⟩ := HB5.out.all; clear hb)
          go_ret
          exact ⟨rfl, HB5.out.bel⟩

theorem fdbApart_holds : Rows.FdbApartSaid := fdbApartM_of (fun x0 x1 x2 x3 x4 x5 x6 x7 x8 x9 x10 v n w h0 h1 h2 h3 h4 h5 h6 h7 h8 h9 h10 ha hn => by
  obtain ⟨pa, c, rfl⟩ := ha.slice
  exact apart_law x0 x1 x2 (x3, ⟨x4, x5, x6, x7, x8, x9⟩) ⟨h3, ⟨h4, h5, h6, h7, h8, h9⟩⟩ h1 h2 x10 pa n c hn w ha)

end Go.Proofs.Ytkbodcgamfkegaa
