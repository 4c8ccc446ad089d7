/- Package gates: for how long a gate's bit stays as it is. -/
import Derived.Test.YtllmfkodgalklaaGtSlot
namespace Go.Proofs.Ytllmfkodgalklaa
open Go.RowKit Go.Joins

def StRel (g b c : Int) (sl : Value) (ts : List (Int × Int)) (G : Nat) (bit : Int) (w : World) (sv iv lv kv : Value) (wr : World) : Prop :=
  ∃ (k : Nat) (S Lf : Int), k ≤ ts.length ∧ kv = .int .i64 (k : Int) ∧ iv = .int .i64 (((slotI ts g + k) % ts.length : Nat) : Int) ∧ sv = .int .i64 S ∧ lv = .int .i64 Lf ∧ S = max (up c ts (slotI ts g + k) - g) 0 ∧ S + Lf = up c ts (slotI ts g + k + 1) - g ∧
    search (isB ts G bit) (slotI ts g + k) (ts.length - k) = search (isB ts G bit) (slotI ts g) ts.length ∧ LB wr w.heap.size b c sl ∧ Below w.heap.size w wr
theorem search_here {p : Nat → Bool} {k f : Nat} (hf : 0 < f) (h : p k = true) : search p k f = some k := by
  cases f with
  | zero => omega
  | succ f => unfold search; rw [if_pos h]
theorem search_next {p : Nat → Bool} {k f : Nat} (h : p k = false) : search p k (f + 1) = search p (k + 1) f := by
  show (if _ then _ else _) = _
  rw [if_neg (by rw [h]; simp)]
theorem and_one (q : Int) : bits .and .i64 q 1 = q % 2 := by
  have e : (BitVec.ofInt 64 q &&& BitVec.ofInt 64 1).toNat = (q % 18446744073709551616).toNat % 2 := by
    rw [BitVec.toNat_and, show (BitVec.ofInt 64 1).toNat = 2 ^ 1 - 1 from by decide, Nat.and_two_pow_sub_one_eq_mod, BitVec.toNat_ofInt]
    rfl
  show IntKind.i64.wrap ((BitVec.ofInt 64 q &&& BitVec.ofInt 64 1).toNat : Nat) = _
  rw [e, IntKind.wrap_i64]
  omega
theorem shr_small (a : Int) (G : Nat) (hG : G < 8) : Op.shift BinOp.shr IntKind.i64 a IntKind.i64 (G : Int) = pure (.int .i64 (a / ((2 ^ G : Nat) : Int))) := by
  rw [shift_shr_any IntKind.i64 IntKind.i64 a (G : Int) (by omega)]
  rw [show min ((G : Int)).toNat IntKind.i64.bits = G by show min _ 64 = _; omega]
  simp
set_option maxHeartbeats 1000000 in
theorem stays_some (b c : Int) (bk o cap : Nat) (ts : List (Int × Int)) (x : Int) (G : Nat) (bit : Int) (w : World) (hr : RdT w bk o ts) (hcap : ts.length ≤ cap) (hg : Good b c ts) (hx : inT x) (hG : G < 8) :
    Calls Try.prog 50 #[LV b c (.slice (some ⟨bk, o, none⟩) ts.length cap), .int .i64 x, .int .i64 (G : Int), .int .i64 bit] w fun e w' => e = .returned (.int .i64 (stayV c ts (gone b c x) G bit)) ∧ Below w.heap.size w w' := by
  have HS := Lib.hid (fun (W : World) (h : RdT W bk o ts) => slot_some b c bk o cap ts x W h hcap hg hx)
  have HGB := Lib.hid (gone_bd (b := b) x hg.c0)
  generalize gone b c x = g at *
  obtain ⟨n, hn⟩ : ∃ n, n = ts.length := ⟨_, rfl⟩
  rw [← hn] at hcap HS ⊢
  have h64 := hg.len
  rw [← hn] at h64
  have HGood := Lib.hid hg
  have HL0 := Lib.hid (LB.new w b c (.slice (some ⟨bk, o, none⟩) n cap))
  have HR0 := Lib.hid (hr.below (bAl (bRef w) (.cells #[.int .i64 b, .int .i64 c, .slice (some ⟨bk, o, none⟩) n cap] 24)))
  have Hn := Lib.hid hn
  have Hr := Lib.hid hr
  clear hn hr hg hx
  go_enter Try.func50, Try.ntmps50
  go_wp2_with (go_at_call 55; (with_reducible refine (HS.out _ HR0.out).mono ?_); rintro e w1 ⟨rfl, hb⟩; have HL1 := Lib.hid (HL0.out.below hb); have HB1 := Lib.hid (bTr (bAl (bRef w) (.cells #[.int .i64 b, .int .i64 c, .slice (some ⟨bk, o, none⟩) n cap] 24)) hb); obtain ⟨m0, m1, m2⟩ := HL1.out.cells; clear hb)
  go_loopw [9, 10, 11, 21] (fun pv iv lv kv wr => StRel g b c (.slice (some ⟨bk, o, none⟩) n cap) ts G bit w pv iv lv kv wr) (fun _ _ _ kv _ => n - (intOf kv).toNat)
  case atStart =>
    have hs := HGood.out.slot_lt g
    have h1 := HGood.out.slot_start HGB.out.1
    refine ⟨0, 0, endOf c ts (slotI ts g) - g, by omega, rfl, by rw [Nat.add_zero, Nat.mod_eq_of_lt hs], rfl, rfl, ?_, ?_, rfl, HL1.out, HB1.out⟩
    · rw [Nat.add_zero, up_slot hs]; omega
    · rw [Nat.add_zero, HGood.out.up_end hs]; omega
  case round =>
    clear HL1 HB1 HL0 HR0 m0 m1 m2
    obtain ⟨k, S, Lf, hk, rfl, rfl, rfl, rfl, hS, hL, hse, hlb, hb⟩ := hrel
    rw [← Hn.out] at hk
    have HB := Lib.hid hb
    have HLB := Lib.hid hlb
    obtain ⟨l0, l1, l2⟩ := hlb.cells
    clear hb hlb
    obtain ⟨j, hj⟩ : ∃ j, slotI ts g + k = j := ⟨_, rfl⟩
    have hs := HGood.out.slot_lt g
    have hst := HGood.out.slot_start HGB.out.1
    have hsl := up_slot (c := c) hs
    have hen := HGood.out.up_end hs
    have hen2 := HGood.out.slot_end HGB.out.2
    have hpos := HGood.out.pos
    have hkn : k ≤ ts.length := by rw [← Hn.out]; exact hk
    have hu1 := HGood.out.up_le (i := j + 1) (k := slotI ts g + ts.length + 1) (by omega)
    have hu2 := HGood.out.up_turn (slotI ts g + 1)
    rw [show slotI ts g + 1 + ts.length = slotI ts g + ts.length + 1 by omega] at hu2
    have hpc := HGood.out.preC (k := slotI ts g + 1) (by omega)
    have hend : endOf c ts (slotI ts g) ≤ c := by unfold endOf; split <;> omega
    have hc1 := HGood.out.c1
    have hgb := HGB.out
    have hu0 := HGood.out.up_le (i := slotI ts g) (k := j) (by omega)
    have hu3 := HGood.out.up_le (i := slotI ts g + 1) (k := j + 1) (by omega)
    have hp0 := HGood.out.pre0 (slotI ts g) (by omega)
    rw [hj] at hS hL hse ⊢
    rcases Nat.lt_or_ge k n with q | q
    · have hd : decide ((k : Int) < (n : Int)) = true := decide_eq_true (by omega)
      obtain ⟨I, hI⟩ : ∃ I, j % ts.length = I := ⟨_, rfl⟩
      have hIn : I < n := by rw [Hn.out, ← hI]; exact Nat.mod_lt _ hpos
      obtain ⟨k1, k2⟩ := (Hr.out.below HB.out).2 I (by rw [← Hn.out]; exact hIn)
      have hand := and_one (tA ts I / (2 : Int) ^ G)
      have hBit : isB ts G bit j = !decide (tA ts I / (2 : Int) ^ G % 2 = bit) := by unfold isB bitA; rw [hI, Int.natCast_pow]; rfl
      obtain ⟨a, ha⟩ : ∃ a, tA ts I = a := ⟨_, rfl⟩
      rw [ha] at k1 hand hBit
      obtain ⟨B, hB⟩ : ∃ B, a / (2 : Int) ^ G % 2 = B := ⟨_, rfl⟩
      rw [hB] at hand hBit
      have hf : ts.length - k = (n - k - 1) + 1 := by rw [← Hn.out]; omega
      rw [hI]
      by_cases hx : B = bit
      · have e1 : (B != bit) = false := by rw [hx]; simp
        rw [decide_eq_true hx] at hBit
        rw [hf, search_next hBit] at hse
        have hup2 := HGood.out.up_step (j + 1)
        obtain ⟨I', hI'⟩ : ∃ I', (j + 1) % ts.length = I' := ⟨_, rfl⟩
        have hI'n : I' < n := by rw [Hn.out, ← hI']; exact Nat.mod_lt _ hpos
        rw [hI'] at hup2
        have hms := mod_step (j := j) hpos
        rw [hI, hI', ← Hn.out] at hms
        have ht : ((I : Int) + 1) % (n : Int) = (I' : Int) := by
          split at hms
          · rw [Int.emod_eq_of_lt (by omega) (by omega)]; omega
          · rw [show (I : Int) + 1 = (n : Int) by omega, Int.emod_self]; omega
        have hlp := HGood.out.long_pos (i := I') (by rw [← Hn.out]; exact hI'n)
        have HLo := Lib.hid (long_some b c bk o cap ts I' wr (Hr.out.below HB.out) (by rw [← Hn.out]; exact hcap) HGood.out (by rw [← Hn.out]; exact hI'n))
        rw [← Hn.out] at HLo
        obtain ⟨Z, hZ⟩ : ∃ Z, longI c ts I' = Z := ⟨_, rfl⟩
        rw [hZ] at HLo hup2 hlp
        have hz : ¬ (n : Int) = 0 := by omega
        have e4 : wrap64 (S + Lf) = S + Lf := by unfold wrap64; omega
        have hz2 : wrap64 (I' : Int) = (I' : Int) := by unfold wrap64; omega
        have HT : Hid (S + Lf = max (up c ts (j + 1) - g) 0 ∧ S + Lf + Z = up c ts (j + 1 + 1) - g) := Lib.hid ⟨by omega, by omega⟩
        have HSE := Lib.hid hse
        have HJ : Hid (slotI ts g + (k + 1) = j + 1) := Lib.hid (by omega)
        have HI' := Lib.hid hI'
        clear hse hS hL hj hs hst hsl hen hen2 hpos hu1 hu2 hpc hend hc1 hgb hu0 hu3 hp0 hkn hI hBit ha hB hf hx hup2 hms hlp hZ hI'
        go_wp2_with (go_at_call 56; (with_reducible refine HLo.out.mono ?_); rintro e w2 ⟨rfl, hb⟩; have HB2 := Lib.hid (bTr HB.out hb); have HL2 := Lib.hid (HLB.out.below hb); clear hb)
        go_roundw
        case rel => exact ⟨k + 1, S + Lf, Z, by rw [← Hn.out]; omega, by go_num, by rw [HJ.out, HI'.out], by first | rfl | rw [e4], rfl, by rw [HJ.out]; exact HT.out.1, by rw [HJ.out]; exact HT.out.2, by rw [HJ.out, ← Hn.out, show n - (k + 1) = n - k - 1 by omega, HSE.out, Hn.out], HL2.out, HB2.out⟩
        case measure => simp [intOf]; omega
      · have e1 : (B != bit) = true := by simpa using hx
        rw [decide_eq_false hx] at hBit
        rw [hf, search_here (by omega) hBit] at hse
        have HE : Hid (stayV c ts g G bit = S) := Lib.hid (by unfold stayV; rw [← hse]; exact hS.symm)
        clear hse hS hL hj hs hst hsl hen hen2 hpos hu1 hu2 hpc hend hc1 hgb hu0 hu3 hp0 hkn hI hBit ha hB hf hx
        go_wp2_with fail
        go_ret
        exact ⟨by rw [HE.out]; rfl, HB.out⟩
    · obtain rfl : k = n := by omega
      have hd : decide ((k : Int) < (k : Int)) = false := decide_eq_false (by omega)
      rw [← Hn.out, Nat.sub_self] at hse
      have HE : Hid (stayV c ts g G bit = 2147483648) := Lib.hid (by unfold stayV; rw [← Hn.out, ← hse]; rfl)
      clear hse hS hL hj hs hst hsl hen hen2 hpos hu1 hu2 hpc hend hc1 hgb hu0 hu3 hp0 hkn
      go_wp2_with fail
      go_ret
      exact ⟨by rw [HE.out]; rfl, HB.out⟩

end Go.Proofs.Ytllmfkodgalklaa
