/- For every room, every slice of ints and every time FdbRoom answers true: no more addresses are known than there is room; those that were said for good stay. No condition. -/
import Derived.Test.YtgldlgkkpiimnaaFFdbRoom
import Derived.Test.YtgldlgkkpiimnaaFdRmMath
namespace Go.Proofs.Ytgldlgkkpiimnaa
open Go.RowKit Go.Joins Go.Maps Go.MapKept Go.ChangeMaps Go.WideMaps

theorem and_lowR (n : Int) (k : Nat) (hk : k < 63) : bits .and .i64 n ((2 ^ k - 1 : Nat) : Int) = n % ((2 ^ k : Nat) : Int) := by
  have hp : 2 ^ k ≤ 2 ^ 62 := Nat.pow_le_pow_right (by omega) (by omega)
  have hpos := Nat.two_pow_pos k
  have hm : (BitVec.ofInt 64 ((2 ^ k - 1 : Nat) : Int)).toNat = 2 ^ k - 1 := by
    rw [BitVec.toNat_ofInt]; omega
  have hd : (2 ^ k : Nat) ∣ 2 ^ 64 := Nat.pow_dvd_pow 2 (by omega)
  have key : (BitVec.ofInt 64 n &&& BitVec.ofInt 64 ((2 ^ k - 1 : Nat) : Int)).toNat = (n % ((2 ^ 64 : Nat) : Int)).toNat % 2 ^ k := by
    rw [BitVec.toNat_and, BitVec.toNat_ofInt, hm, Nat.and_two_pow_sub_one_eq_mod]
  show IntKind.i64.wrap ((BitVec.ofInt 64 n &&& BitVec.ofInt 64 ((2 ^ k - 1 : Nat) : Int)).toNat : Nat) = _
  rw [key, IntKind.wrap_i64]
  have e : (((n % ((2 ^ 64 : Nat) : Int)).toNat % 2 ^ k : Nat) : Int) = n % ((2 ^ k : Nat) : Int) := by
    rw [Int.natCast_emod, Int.toNat_of_nonneg (Int.emod_nonneg _ (by simp))]
    exact Int.emod_emod_of_dvd _ (Int.natCast_dvd_natCast.2 hd)
  rw [e]
  have h1 := Int.emod_nonneg n (show ((2 ^ k : Nat) : Int) ≠ 0 by omega)
  have h2 := Int.emod_lt_of_pos n (show (0 : Int) < ((2 ^ k : Nat) : Int) by omega)
  generalize n % ((2 ^ k : Nat) : Int) = z at *
  omega
theorem lowR4 (n : Int) : bits .and .i64 n 15 = n % 16 := and_lowR n 4 (by omega)
theorem lowR5 (n : Int) : bits .and .i64 n 31 = n % 32 := and_lowR n 5 (by omega)
theorem lowR2 (n : Int) : bits .and .i64 n 3 = n % 4 := and_lowR n 2 (by omega)
theorem lowR32 (n : Int) : bits .and .i64 n 4294967295 = n % 4294967296 := and_lowR n 32 (by omega)
section
variable {B m : Nat} {w : World} {b : TB} {F : Nat → Int} {room now : Int} {E : List (Pl × (Int × Int))}
theorem rm_len (h : Tab B w b m (rmS F room E)) (hm : m ≤ 1000000) : Calls Try.prog 13 #[.pointer (some ⟨b.t, 0, none⟩)] w fun e w' => e = .returned (.int .i64 ((E.length : Int) + 1)) ∧ Below w.heap.size w w' := by
  have k := len_any h hm
  have e : (((rmS F room E).S.length + (rmS F room E).E.length : Nat) : Int) = (E.length : Int) + 1 := by
    show ((1 + E.length : Nat) : Int) = _
    omega
  rw [e] at k
  exact k
theorem rm_out (h : Tab B w b m (rmS F room E)) (hE : RmE room now E) : Calls Try.prog 11 #[.pointer (some ⟨b.t, 0, none⟩), .int .i64 0, .agg #[.int .i64 2, .int .u8 0, .int .u8 0, .int .u8 0, .int .u8 0, .int .u8 0, .int .u8 0]] w fun e w' => e = .returned (.tuple #[.int .i64 8, .int .i64 0]) ∧ Below w.heap.size w w' := by
  have k := out_any h 0 (by show 0 < 4; decide) (pj 0) (pj_good (by decide)) hE.ok
  rw [hE.out, show (pj 0).1 = 2 from rfl, rm_vlan, show bits .and .i64 8 0 = 0 by kernel_rfl] at k
  exact k
theorem rm_age0 (h : Tab B w b m (rmS F room E)) (hm : m ≤ 1000000) (hE : RmE room now E) : Calls Try.prog 14 #[.pointer (some ⟨b.t, 0, none⟩), .int .i64 now] w fun e w' => e = .returned (.int .i64 0) ∧ Tab B w' b m (rmS F room E) ∧ ButB b.e w w' := by
  have k := age_any h hm now
  have e : (rmS F room E).E.filter (fun e => !decide (e.2.2 < now)) = E := by
    show E.filter (fun e => !decide (e.2.2 < now)) = E
    rw [List.filter_eq_self]
    intro x hx
    have := (hE.e x hx).2.2.2
    simp
    omega
  have e2 : (((rmS F room E).E.length - E.length : Nat) : Int) = 0 := by
    show ((E.length - E.length : Nat) : Int) = 0
    omega
  rw [e, e2] at k
  exact k
theorem rm_age1 (h : Tab B w b m (rmS F room E)) (hm : m ≤ 1000000) (hE : RmE room now E) : Calls Try.prog 14 #[.pointer (some ⟨b.t, 0, none⟩), .int .i64 (now + 1)] w fun e w' => e = .returned (.int .i64 (E.length : Int)) ∧ Tab B w' b m (rmS F room []) ∧ ButB b.e w w' := by
  have k := age_any h hm (now + 1)
  have e : (rmS F room E).E.filter (fun e => !decide (e.2.2 < now + 1)) = [] := by
    show E.filter (fun e => !decide (e.2.2 < now + 1)) = []
    rw [List.filter_eq_nil_iff]
    intro x hx
    have := (hE.e x hx).2.2.2
    simp
    omega
  have e2 : (((rmS F room E).E.length - ([] : List (Pl × (Int × Int))).length : Nat) : Int) = (E.length : Int) := rfl
  rw [e, e2] at k
  exact k
/-- What Learn answers. -/
theorem rm_learn (h : Tab B w b m (rmS F room E)) (hm : m < 1000000) (hB : B ≤ w.heap.size) (hE : RmE room now E) (j a : Nat) (hj : j < 32) (ha : a < 4) :
    ∃ g, (g = 0 ∨ g = 30) ∧ Calls Try.prog 15 #[.pointer (some ⟨b.t, 0, none⟩), .agg #[.int .i64 2, .int .u8 0, .int .u8 0, .int .u8 0, .int .u8 0, .int .u8 0, .int .u8 (j : Int)], .int .i64 (a : Int), .int .i64 now] w fun e w' => e = .returned (.int .i64 g) ∧ ∃ E', (g = 30 → (E'.length : Int) + 1 = room) ∧ RmE room now E' ∧ Tab B w' b (m + 1) (rmS F room E') ∧ Below B w w' := by
  by_cases hj0 : j = 0
  · subst hj0
    exact ⟨0, .inl rfl, (learn_said h (pj 0) (pj_good (by decide)) (by show (1 : Int) ≤ 2; decide) (by show (2 : Int) ≤ 4094; decide) a (by show a < 4; exact ha) now (by show 0 % 2 = 0; rfl) 8 (by decide) rmS_look0).mono fun e w' ⟨h1, h2⟩ => ⟨h1, E, fun e => by omega, hE, ⟨(h.below h2).row, (h.below h2).prt, (h.below h2).mv.mono (Nat.le_succ m), (h.below h2).ms.mono (Nat.le_succ m), (h.below h2).me.mono (Nat.le_succ m), h.n0, h.n8, h.bt, h.bp, h.bv, h.bs, h.be, h.vs, h.ve, h.se⟩, h2.mono hB⟩⟩
  · by_cases hr : whereV (rmS F room E) (pj j) ≠ 0 ∨ (((rmS F room E).S.length + (rmS F room E).E.length : Nat) : Int) < (rmS F room E).room
    · exact ⟨0, .inl rfl, (learn_ok h hm (pj j) (pj_good (by omega)) (by show (1 : Int) ≤ 2; decide) (by show (2 : Int) ≤ 4094; decide) a (by show a < 4; exact ha) now (by show 0 % 2 = 0; rfl) (rmS_look (by omega)) hE.ok hr).mono fun e w' ⟨h1, h2, h3⟩ => ⟨h1, putL E (pj j) ((a : Int), now), fun e => by omega, hE.put (F := F) (by omega) hj ha hr, h2, h3.below h.be h.lt.2.2.2.2⟩⟩
    · refine ⟨30, .inr rfl, (learn_full h hm (pj j) (pj_good (by omega)) (by show (1 : Int) ≤ 2; decide) (by show (2 : Int) ≤ 4094; decide) a (by show a < 4; exact ha) now (by show 0 % 2 = 0; rfl) (rmS_look (by omega)) hE.ok hr).mono fun e w' ⟨h1, h2⟩ => ⟨h1, E, fun _ => ?_, hE, ⟨(h.below h2).row, (h.below h2).prt, (h.below h2).mv.mono (Nat.le_succ m), (h.below h2).ms.mono (Nat.le_succ m), (h.below h2).me.mono (Nat.le_succ m), h.n0, h.n8, h.bt, h.bp, h.bv, h.bs, h.be, h.vs, h.ve, h.se⟩, h2.mono hB⟩⟩
      have hl := hE.len
      have hn : ¬ ((1 + E.length : Nat) : Int) < room := fun e => hr (.inr e)
      omega
end
def RmRel (B : Nat) (b : TB) (F : Nat → Int) (room now : Int) (n : Nat) (w : World) (kv : Value) (wr : World) : Prop :=
  ∃ (k : Nat) (E : List (Pl × (Int × Int))) (m : Nat), kv = .int .i64 (k : Int) ∧ k ≤ n ∧ k ≤ 60 ∧ m ≤ 10 + k ∧ Tab B wr b m (rmS F room E) ∧ RmE room now E ∧ Below w.heap.size w wr ∧ B ≤ wr.heap.size
set_option maxRecDepth 20000 in
set_option maxHeartbeats 8000000 in
theorem room_any (x0 x2 : Int) (pa : Option Addr) (n c : Nat) (w : World) (ha : SlArg 1 Okint w (.slice pa n c) n) :
    Calls Try.prog 5 #[.int .i64 x0, .slice pa n c, .int .i64 x2] w fun e w' => e = .returned (.bool true) ∧ Below w.heap.size w w' := by
  have HH := Lib.hid head_ret
  have l1 := lowR4 x0
  have l2 := lowR32 x2
  obtain ⟨R, hR⟩ : ∃ R, 1 + x0 % 16 = R := ⟨_, rfl⟩
  obtain ⟨T, hT⟩ : ∃ T, x2 % 4294967296 = T := ⟨_, rfl⟩
  have hR1 : 1 ≤ R ∧ R ≤ 16 := by omega
  have hT1 : 0 ≤ T ∧ T < 4294967296 := by omega
  obtain ⟨Z, hZ⟩ : ∃ Z, x0 % 16 = Z := ⟨_, rfl⟩
  rw [hZ] at l1 hR
  have e1 : wrap64 R = R := by unfold wrap64; omega
  rw [hT] at l2
  have HR := Lib.hid hR1
  have HT := Lib.hid hT1
  have HA := Lib.hid ha
  have HN : Hid (∀ W, Calls Try.prog 8 #[.int .i64 4, .int .i64 R] W fun e w' => ∃ b F, e = .returned (.tuple #[.pointer (some ⟨b.t, 0, none⟩), .int .i64 0]) ∧ Tab W.heap.size w' b 0 ⟨4, R, F, [], [], []⟩ ∧ Below W.heap.size W w') := Lib.hid (fun W => new_ok 4 R W (by decide) (by decide) (by omega) (by omega))
  have HS : Hid (∀ B W b F, Tab B W b 0 ⟨4, R, F, [], [], []⟩ → Calls Try.prog 17 #[.pointer (some ⟨b.t, 0, none⟩), .int .i64 2, .agg #[.int .i64 15, .int .i64 0]] W fun e w' => e = .returned (.int .i64 0) ∧ Tab B w' b 1 ⟨4, R, F, putL [] 2 (15, 0), [], []⟩ ∧ ButB b.v W w') :=
    Lib.hid (fun B W b F h => setVlan_ok h (by decide) 2 15 0 (by decide) (by decide) (by decide) (by show (15 : Int) < ((2 ^ 4 : Nat) : Int); decide) (by kernel_rfl))
  have HP : Hid (∀ B W b F, B ≤ W.heap.size → Tab B W b 1 ⟨4, R, F, putL [] 2 (15, 0), [], []⟩ → Calls Try.prog 16 #[.pointer (some ⟨b.t, 0, none⟩), .agg #[.int .i64 2, .int .u8 0, .int .u8 0, .int .u8 0, .int .u8 0, .int .u8 0, .int .u8 0], .int .i64 8] W fun e w' => e = .returned (.int .i64 0) ∧ Tab B w' b 2 (rmS F R []) ∧ Below B W w') :=
    Lib.hid (fun B W b F hB h => setPlace_ok h (by decide) hB (pj 0) (pj_good (by decide)) (by show (1 : Int) ≤ 2; decide) (by show (2 : Int) ≤ 4094; decide) 8 (by decide) (by show (8 : Int) < ((2 ^ 4 : Nat) : Int); decide) ⟨(fun x hx => by cases hx), (fun x hx => by cases hx)⟩ (.inr (by show ((0 + 0 : Nat) : Int) < R; have := HR.out; omega)))
  clear hT hR1 hT1 ha hZ
  go_enter Try.func5, Try.ntmps5
  go_wp2_with (first
    | (go_at_call 7; (with_reducible refine (HH.out _).mono ?_); rintro e w1 ⟨rfl, hb⟩; have HB1 := Lib.hid hb; clear hb)
    | (go_at_call 8; (with_reducible refine (HN.out _).mono ?_); rintro e w2 ⟨b, F, rfl, ht, hb⟩; have HT2 := Lib.hid ht; have HB2 := Lib.hid (bTr HB1.out hb); have HZ2 := Lib.hid hb.size; clear ht hb)
    | (go_at_call 17; (with_reducible refine (HS.out _ _ b F HT2.out).mono ?_); rintro e w3 ⟨rfl, ht, hb⟩; have HT3 := Lib.hid ht; have HB3 := Lib.hid (hb.below HT2.out.bv HT2.out.lt.2.2.1); have HZ3 := Lib.hid (Nat.le_trans HZ2.out HB3.out.size); clear ht hb)
    | (go_at_call 16; (with_reducible refine (HP.out _ _ b F HZ3.out HT3.out).mono ?_); rintro e w4 ⟨rfl, ht, hb⟩; have HT4 := Lib.hid ht; have HB4 := Lib.hid hb; clear ht hb))
  clear hR e1
  go_loopw [43] (fun kv wr => RmRel w1.heap.size b F R T n w kv wr) (fun kv _ => n - (intOf kv).toNat)
  case atStart => exact ⟨0, [], 2, rfl, by omega, by omega, by omega, HT4.out, ⟨(fun x hx => by cases hx), by show ((0 : Nat) : Int) + 1 ≤ R; have := HR.out; omega⟩, (HB2.out.trans (HB3.out.mono HB1.out.size)).trans (HB4.out.mono HB1.out.size), Nat.le_trans HZ3.out HB4.out.size⟩
  case round =>
    obtain ⟨k, E, m, rfl, hk, hk60, hm, ht, hE, hb, hz⟩ := hrel
    have HW : Hid (w.heap.size ≤ w1.heap.size) := Lib.hid HB1.out.size
    clear HB1 HT2 HB2 HZ2 HT3 HB3 HZ3 HT4 HB4 HN HS HP HH
    have HTb := Lib.hid ht
    have HEE := Lib.hid hE
    have HBW := Lib.hid hb
    have HZ := Lib.hid hz
    clear ht hb hz
    have hm6 : m ≤ 1000000 := by omega
    have HO : Hid (∀ W, Tab w1.heap.size W b m (rmS F R E) → Calls Try.prog 11 #[.pointer (some ⟨b.t, 0, none⟩), .int .i64 0, .agg #[.int .i64 2, .int .u8 0, .int .u8 0, .int .u8 0, .int .u8 0, .int .u8 0, .int .u8 0]] W fun e w' => e = .returned (.tuple #[.int .i64 8, .int .i64 0]) ∧ Below W.heap.size W w') := Lib.hid (fun W h => rm_out h HEE.out)
    obtain ⟨N, hN⟩ : ∃ N : Int, (E.length : Int) = N := ⟨_, rfl⟩
    have hN0 : 0 ≤ N ∧ N ≤ 16 := by have h1 := HEE.out.len; have h2 := HR.out; omega
    have HLn : Hid (∀ W, Tab w1.heap.size W b m (rmS F R E) → Calls Try.prog 13 #[.pointer (some ⟨b.t, 0, none⟩)] W fun e w' => e = .returned (.int .i64 (N + 1)) ∧ Below W.heap.size W w') := Lib.hid (fun W h => by rw [← hN]; exact rm_len h hm6)
    have HL0 : Hid (∀ W, Tab w1.heap.size W b m (rmS F R []) → Calls Try.prog 13 #[.pointer (some ⟨b.t, 0, none⟩)] W fun e w' => e = .returned (.int .i64 1) ∧ Below W.heap.size W w') := Lib.hid (fun W h => rm_len h hm6)
    have HG0 : Hid (∀ W, Tab w1.heap.size W b m (rmS F R E) → Calls Try.prog 14 #[.pointer (some ⟨b.t, 0, none⟩), .int .i64 T] W fun e w' => e = .returned (.int .i64 0) ∧ Tab w1.heap.size w' b m (rmS F R E) ∧ ButB b.e W w') := Lib.hid (fun W h => rm_age0 h hm6 HEE.out)
    have HG1 : Hid (∀ W, Tab w1.heap.size W b m (rmS F R E) → Calls Try.prog 14 #[.pointer (some ⟨b.t, 0, none⟩), .int .i64 (T + 1)] W fun e w' => e = .returned (.int .i64 N) ∧ Tab w1.heap.size w' b m (rmS F R []) ∧ ButB b.e W w') := Lib.hid (fun W h => by rw [← hN]; exact rm_age1 h hm6 HEE.out)
    have ew1 : wrap64 (T + 1) = T + 1 := by have := HT.out; unfold wrap64; omega
    have ew2 : wrap64 (N + 1 - 1) = N := by unfold wrap64; omega
    rcases Nat.lt_or_ge k n with g1 | g1
    · have hd : decide ((k : Int) < (n : Int)) = true := decide_eq_true (by omega)
      obtain ⟨ab, o, G, rfl, hab, hG⟩ := SlArg.at HA.out (by omega)
      obtain ⟨⟨z0, hz0, b0⟩, hlen, hc⟩ := hG k g1
      rw [hz0] at hc
      have c0 := (HBW.out.cell (p := ⟨ab, o + k * 1 + 0, none⟩) hab).trans (hc 0 (by omega))
      rw [Nat.add_zero, Nat.mul_one] at c0
      simp only [List.getElem?_cons_zero] at c0
      clear hG hc hlen hz0 G hab
      by_cases g2 : 60 ≤ k
      · have hd2 : decide ((60 : Int) ≤ (k : Int)) = true := decide_eq_true (by omega)
        go_wp2_with (first
          | (go_at_call 11; (with_reducible refine (HO.out _ HTb.out).mono ?_); rintro e y1 ⟨rfl, hb⟩; have HT1 := Lib.hid (HTb.out.below hb); have HY1 := Lib.hid (hb.mono HZ.out); clear hb)
          | (go_at_call 13; (with_reducible refine (HL0.out _ HT4.out).mono ?_); rintro e y5 ⟨rfl, hb⟩; have HY5 := Lib.hid (hb.mono HZ4.out); clear hb)
          | (go_at_call 13; (with_reducible refine (HLn.out _ HT1.out).mono ?_); rintro e y2 ⟨rfl, hb⟩; have HT2 := Lib.hid (HT1.out.below hb); have HY2 := Lib.hid (hb.mono (Nat.le_trans HZ.out HY1.out.size)); clear hb)
          | (go_at_call 14; (with_reducible refine (HG0.out _ HT2.out).mono ?_); rintro e y3 ⟨rfl, ht, hb⟩; have HT3 := Lib.hid ht; have HY3 := Lib.hid (hb.below HT2.out.be HT2.out.lt.2.2.2.2); clear ht hb)
          | (go_at_call 14; (with_reducible refine (HG1.out _ HT3.out).mono ?_); rintro e y4 ⟨rfl, ht, hb⟩; have HT4 := Lib.hid ht; have HY4 := Lib.hid (hb.below HT3.out.be HT3.out.lt.2.2.2.2); have HZ4 := Lib.hid (Nat.le_trans HZ.out (Nat.le_trans HY1.out.size (Nat.le_trans HY2.out.size (Nat.le_trans HY3.out.size HY4.out.size)))); clear ht hb))
        go_ret
        exact ⟨rfl, HBW.out.trans ((HY1.out.trans (HY2.out.trans (HY3.out.trans (HY4.out.trans HY5.out)))).mono HW.out)⟩
      · have hd2 : decide ((60 : Int) ≤ (k : Int)) = false := decide_eq_false (by omega)
        have f1 := lowR5 z0
        obtain ⟨j, hj⟩ : ∃ j : Nat, z0 % 32 = (j : Int) := ⟨(z0 % 32).toNat, by omega⟩
        have hj32 : j < 32 := by omega
        rw [hj] at f1
        have f2 := lowR2 (z0 / 32)
        obtain ⟨a, ha⟩ : ∃ a : Nat, z0 / 32 % 4 = (a : Int) := ⟨(z0 / 32 % 4).toNat, by omega⟩
        have ha4 : a < 4 := by omega
        rw [ha] at f2
        have f3 : IntKind.u8.wrap (j : Int) = (j : Int) := by rw [IntKind.wrap_u8]; omega
        obtain ⟨q, hq, hl⟩ := rm_learn HTb.out (by omega) HZ.out HEE.out j a hj32 ha4
        have HLe := Lib.hid hl
        have HK := Lib.hid (show k + 1 ≤ n ∧ k + 1 ≤ 60 ∧ m + 1 ≤ 10 + (k + 1) from ⟨by omega, by omega, by omega⟩)
        clear hl hj ha hj32 ha4
        rcases hq with rfl | rfl
        · skip
          go_wp2_with (first
            | (go_at_call 15; (with_reducible refine HLe.out.mono ?_); rintro e y1 ⟨rfl, E2, -, hE2, ht, hb⟩; obtain ⟨N1, hN1⟩ : ∃ N1 : Int, (E2.length : Int) = N1 := ⟨_, rfl⟩; have HLx : Hid (∀ W, Tab w1.heap.size W b (m + 1) (rmS F R E2) → Calls Try.prog 13 #[.pointer (some ⟨b.t, 0, none⟩)] W fun e w' => e = .returned (.int .i64 (N1 + 1)) ∧ Below W.heap.size W w') := Lib.hid (fun W h => by rw [← hN1]; exact rm_len h (by omega)); have hlt : decide (R < N1 + 1) = false := decide_eq_false (by have h1 := hE2.len; omega); have HT1 := Lib.hid ht; have HE2 := Lib.hid hE2; have HY1 := Lib.hid hb; clear ht hb hE2)
            | (go_at_call 13; (with_reducible refine (HLx.out _ HT1.out).mono ?_); rintro e y2 ⟨rfl, hb⟩; have HT2 := Lib.hid (HT1.out.below hb); have HY2 := Lib.hid (HY1.out.trans (hb.mono (Nat.le_trans HZ.out HY1.out.size))); clear hb))
          go_roundw
          case rel => exact ⟨k + 1, E2, m + 1, by go_num, HK.out.1, HK.out.2.1, HK.out.2.2, HT2.out, HE2.out, HBW.out.trans (HY2.out.mono HW.out), Nat.le_trans HZ.out HY2.out.size⟩
          case measure => simp [intOf]; omega
        · skip
          go_wp2_with (first
            | (go_at_call 15; (with_reducible refine HLe.out.mono ?_); rintro e y1 ⟨rfl, E2, hfull, hE2, ht, hb⟩; have HLx : Hid (∀ W, Tab w1.heap.size W b (m + 1) (rmS F R E2) → Calls Try.prog 13 #[.pointer (some ⟨b.t, 0, none⟩)] W fun e w' => e = .returned (.int .i64 R) ∧ Below W.heap.size W w') := Lib.hid (fun W h => by have key := rm_len h (by omega); rw [hfull rfl] at key; exact key); have hlt : decide (R < R) = false := decide_eq_false (by omega); have HT1 := Lib.hid ht; have HE2 := Lib.hid hE2; have HY1 := Lib.hid hb; clear ht hb hE2)
            | (go_at_call 13; (with_reducible refine (HLx.out _ HT2.out).mono ?_); rintro e y3 ⟨rfl, hb⟩; have HT3 := Lib.hid (HT2.out.below hb); have HY3 := Lib.hid (HY2.out.trans (hb.mono (Nat.le_trans HZ.out HY2.out.size))); clear hb)
            | (go_at_call 13; (with_reducible refine (HLx.out _ HT1.out).mono ?_); rintro e y2 ⟨rfl, hb⟩; have HT2 := Lib.hid (HT1.out.below hb); have HY2 := Lib.hid (HY1.out.trans (hb.mono (Nat.le_trans HZ.out HY1.out.size))); clear hb))
          go_roundw
          case rel => exact ⟨k + 1, E2, m + 1, by go_num, HK.out.1, HK.out.2.1, HK.out.2.2, HT3.out, HE2.out, HBW.out.trans (HY3.out.mono HW.out), Nat.le_trans HZ.out HY3.out.size⟩
          case measure => simp [intOf]; omega
    · obtain rfl : n = k := by omega
      have hd : decide ((n : Int) < (n : Int)) = false := decide_eq_false (by omega)
      go_wp2_with (first
        | (go_at_call 11; (with_reducible refine (HO.out _ HTb.out).mono ?_); rintro e y1 ⟨rfl, hb⟩; have HT1 := Lib.hid (HTb.out.below hb); have HY1 := Lib.hid (hb.mono HZ.out); clear hb)
        | (go_at_call 13; (with_reducible refine (HL0.out _ HT4.out).mono ?_); rintro e y5 ⟨rfl, hb⟩; have HY5 := Lib.hid (hb.mono HZ4.out); clear hb)
        | (go_at_call 13; (with_reducible refine (HLn.out _ HT1.out).mono ?_); rintro e y2 ⟨rfl, hb⟩; have HT2 := Lib.hid (HT1.out.below hb); have HY2 := Lib.hid (hb.mono (Nat.le_trans HZ.out HY1.out.size)); clear hb)
        | (go_at_call 14; (with_reducible refine (HG0.out _ HT2.out).mono ?_); rintro e y3 ⟨rfl, ht, hb⟩; have HT3 := Lib.hid ht; have HY3 := Lib.hid (hb.below HT2.out.be HT2.out.lt.2.2.2.2); clear ht hb)
        | (go_at_call 14; (with_reducible refine (HG1.out _ HT3.out).mono ?_); rintro e y4 ⟨rfl, ht, hb⟩; have HT4 := Lib.hid ht; have HY4 := Lib.hid (hb.below HT3.out.be HT3.out.lt.2.2.2.2); have HZ4 := Lib.hid (Nat.le_trans HZ.out (Nat.le_trans HY1.out.size (Nat.le_trans HY2.out.size (Nat.le_trans HY3.out.size HY4.out.size)))); clear ht hb))
      go_ret
      exact ⟨rfl, HBW.out.trans ((HY1.out.trans (HY2.out.trans (HY3.out.trans (HY4.out.trans HY5.out)))).mono HW.out)⟩

theorem fdbRoom_holds : Rows.FdbRoomSaid := fdbRoom_of (fun x0 v n x2 w _ ha _ => by
  obtain ⟨p, c, rfl⟩ := ha.slice
  exact room_any x0 x2 p n c w ha)

end Go.Proofs.Ytgldlgkkpiimnaa
