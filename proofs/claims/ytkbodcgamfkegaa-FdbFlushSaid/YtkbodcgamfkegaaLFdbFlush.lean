/- For every slice of bytes and every port FdbFlush answers true: what was seen at a port is forgotten with it, all else stays where it was seen. No condition. -/
import Derived.Test.YtkbodcgamfkegaaFFdbFlush
import Derived.Test.YtkbodcgamfkegaaFdFlMath
namespace Go.Proofs.Ytkbodcgamfkegaa
open Go.RowKit Go.Joins Go.Maps Go.MapKept Go.ChangeMaps Go.WideMaps

theorem and_lowF (n : Int) (k : Nat) (hk : k < 63) : bits .and .i64 n ((2 ^ k - 1 : Nat) : Int) = n % ((2 ^ k : Nat) : Int) := by
  have hp : 2 ^ k ≤ 2 ^ 62 := Nat.pow_le_pow_right (by omega) (by omega)
  have hpos := Nat.two_pow_pos k
  have hm : (BitVec.ofInt 64 ((2 ^ k - 1 : Nat) : Int)).toNat = 2 ^ k - 1 := by
    rw [BitVec.toNat_ofInt]; omega
  have hd : (2 ^ k : Nat) ∣ 2 ^ 64 := Nat.pow_dvd_pow 2 (by omega)
  have key : (BitVec.ofInt 64 n &&& BitVec.ofInt 64 ((2 ^ k - 1 : Nat) : Int)).toNat = (n % ((2 ^ 64 : Nat) : Int)).toNat % 2 ^ k := by
    rw [BitVec.toNat_and, BitVec.toNat_ofInt, hm, Nat.and_two_pow_sub_one_eq_mod]
  show IntKind.i64.wrap ((BitVec.ofInt 64 n &&& BitVec.ofInt 64 ((2 ^ k - 1 : Nat) : Int)).toNat : Nat) = _
  rw [key, IntKind.wrap_i64]
  have e : (((n % ((2 ^ 64 : Nat) : Int)).toNat % 2 ^ k : Nat) : Int) = n % ((2 ^ k : Nat) : Int) := by
    rw [Int.natCast_emod, Int.toNat_of_nonneg (Int.emod_nonneg _ (by simp))]
    exact Int.emod_emod_of_dvd _ (Int.natCast_dvd_natCast.2 hd)
  rw [e]
  have h1 := Int.emod_nonneg n (show ((2 ^ k : Nat) : Int) ≠ 0 by omega)
  have h2 := Int.emod_lt_of_pos n (show (0 : Int) < ((2 ^ k : Nat) : Int) by omega)
  generalize n % ((2 ^ k : Nat) : Int) = z at *
  omega
theorem lowF2 (n : Int) : bits .and .i64 n 3 = n % 4 := and_lowF n 2 (by omega)
def FlRel (B : Nat) (w : World) (b : TB) (mb : Nat) (F : Nat → Int) (n : Nat) (kv : Value) (wr : World) : Prop :=
  ∃ (k : Nat) (E : List (Pl × (Int × Int))) (L : List (Nat × Int)), kv = .int .i64 (k : Int) ∧ k ≤ n ∧ Tab B wr b (1 + k) (flS F E) ∧ MapL MW wr mb k L ∧ FlE E L ∧ Below w.heap.size w wr ∧ B ≤ wr.heap.size
def Fl2 (B : Nat) (w : World) (b : TB) (mb rb : Nat) (F : Nat → Int) (n : Nat) (E : List (Pl × (Int × Int))) (L : List (Nat × Int)) (A : Int) (kv : Value) (wr : World) : Prop :=
  ∃ (lf : Lit → Bool) (cn : Nat), kv = .int .i64 (cntL L lf A : Int) ∧ RngL MW wr mb rb n L lf cn ∧ (∀ l, lf l = true → ∃ e ∈ L, l = MW.kl e.1) ∧ Tab B wr b (1 + n) (flS F (E.filter (fun e => !decide (e.2.1 = A)))) ∧ Below w.heap.size w wr ∧ B ≤ wr.heap.size
theorem RngL.belowW {w w' : World} {b r n cnt : Nat} {L : List (Nat × Int)} {left : Lit → Bool} (h : RngL MW w b r n L left cnt) (hb : Below w.heap.size w w') : RngL MW w' b r n L left cnt :=
  h.kept (row := none) ⟨hb.os, hb.tape, hb.output, hb.size, fun i hi _ => hb.block i hi⟩ (by simp) (by simp)
theorem turned_blk {w w' : World} {b k : Nat} (h : w.mapTurned w' b) (hk : k ≠ b) : w'.heap[k]? = w.heap[k]? := by
  obtain ⟨es, cl, es', cl', hb, rfl⟩ := h
  exact heap_setBlock_other hb _ hk
theorem turned_bel {w w' : World} {B b : Nat} (h : w.mapTurned w' b) (hB : B ≤ b) : Below B w w' := by
  have g := h.grown
  exact ⟨g.os, g.tape, g.output, g.size, fun k hk => turned_blk h (by omega)⟩
theorem Tab.turned {B m mb : Nat} {w w' : World} {b : TB} {s : TS} (h : Tab B w b m s) (ht : w.mapTurned w' mb) (hn : b.t < mb ∧ b.p < mb ∧ b.v < mb ∧ b.s < mb ∧ b.e < mb) : Tab B w' b m s :=
  h.heap (turned_blk ht (by omega)) (turned_blk ht (by omega)) (turned_blk ht (by omega)) (turned_blk ht (by omega)) (turned_blk ht (by omega))
set_option maxRecDepth 20000 in
set_option maxHeartbeats 8000000 in
theorem flush_law (pa : Option Addr) (n c : Nat) (x1 : Int) (w : World) (ha : SlArg 1 Okuint8 w (.slice pa n c) n) :
    Calls Try.prog 6 #[.slice pa n c, .int .i64 x1] w fun e w' => e = .returned (.bool true) ∧ Below w.heap.size w w' := by
  have HH := Lib.hid head_ret
  have l1 := lowF2 x1
  obtain ⟨A, hA⟩ : ∃ A, x1 % 4 = A := ⟨_, rfl⟩
  have hA1 : 0 ≤ A ∧ A < 4 := by omega
  rw [hA] at l1
  have HA := Lib.hid ha
  have HA1 := Lib.hid hA1
  have HN : Hid (∀ W, Calls Try.prog 8 #[.int .i64 4, .int .i64 300] W fun e w' => ∃ b F, e = .returned (.tuple #[.pointer (some ⟨b.t, 0, none⟩), .int .i64 0]) ∧ Tab W.heap.size w' b 0 ⟨4, 300, F, [], [], []⟩ ∧ Below W.heap.size W w') := Lib.hid (fun W => new_ok 4 300 W (by decide) (by decide) (by decide) (by decide))
  have HS : Hid (∀ B W b F, Tab B W b 0 ⟨4, 300, F, [], [], []⟩ → Calls Try.prog 17 #[.pointer (some ⟨b.t, 0, none⟩), .int .i64 9, .agg #[.int .i64 15, .int .i64 0]] W fun e w' => e = .returned (.int .i64 0) ∧ Tab B w' b 1 (flS F []) ∧ ButB b.v W w') :=
    Lib.hid (fun B W b F h => setVlan_ok h (by decide) 9 15 0 (by decide) (by decide) (by decide) (by show (15 : Int) < ((2 ^ 4 : Nat) : Int); decide) (by kernel_rfl))
  by_cases hn : 60 < n
  · have d0 : decide ((60 : Int) < (n : Int)) = true := decide_eq_true (by omega)
    clear hn hA hA1 ha
    go_enter Try.func6, Try.ntmps6
    go_wp2_with (go_at_call 7; (with_reducible refine (HH.out _).mono ?_); rintro e w1 ⟨rfl, hb⟩; have HB1 := Lib.hid hb; clear hb)
    go_ret
    exact ⟨rfl, HB1.out⟩
  have hmm := @run_makeMap Try.prog
  have d0 : decide ((60 : Int) < (n : Int)) = false := decide_eq_false (by omega)
  have HNN : Hid (n ≤ 60) := Lib.hid (by omega)
  clear hA hA1 ha hn
  go_enter Try.func6, Try.ntmps6
  go_wp2_with (first
    | (go_at_call 7; (with_reducible refine (HH.out _).mono ?_); rintro e w1 ⟨rfl, hb⟩; have HB1 := Lib.hid hb; clear hb)
    | (go_at_call 8; (with_reducible refine (HN.out _).mono ?_); rintro e w2 ⟨b, F, rfl, ht, hb⟩; have HT2 := Lib.hid ht; have HB2 := Lib.hid (bTr HB1.out hb); have HZ2 := Lib.hid hb.size; clear ht hb)
    | (go_at_call 17; (with_reducible refine (HS.out _ _ b F HT2.out).mono ?_); rintro e w3 ⟨rfl, ht, hb⟩; have HT3 := Lib.hid ht; have HB3 := Lib.hid (hb.below HT2.out.bv HT2.out.lt.2.2.1); have HZ3 := Lib.hid (Nat.le_trans HZ2.out HB3.out.size); have HLT := Lib.hid ht.lt; have HMM := Lib.hid (mapL_made (M := MW) w3); have HTM := Lib.hid (ht.below (bAl (bRef w3) (.map #[] 0))); have HBM := Lib.hid (bAl (bRef w3) (.map #[] 0)); clear ht hb))
  go_loopw [37] (fun kv wr => FlRel w1.heap.size w b w3.heap.size F n kv wr) (fun kv _ => n - (intOf kv).toNat)
  case atStart => exact ⟨0, [], [], rfl, by omega, HTM.out, HMM.out, ⟨rfl, fun e he => by cases he⟩, (HB2.out.trans (HB3.out.mono HB1.out.size)).trans (HBM.out.mono (Nat.le_trans HB1.out.size HZ3.out)), by simp; have := HZ3.out; omega⟩
  case round =>
    obtain ⟨k, E, L, rfl, hk, ht, hml, hfl, hb, hz⟩ := hrel
    have HTb := Lib.hid ht
    have HML := Lib.hid hml
    have HFL := Lib.hid hfl
    have HBW := Lib.hid hb
    have HZ := Lib.hid hz
    have HW : Hid (w.heap.size ≤ w1.heap.size) := Lib.hid HB1.out.size
    have hn60 := HNN.out
    have HM3 : Hid (w1.heap.size ≤ w3.heap.size) := Lib.hid HZ3.out
    clear ht hml hfl hb hz HB1 HT2 HB2 HZ2 HT3 HB3 HZ3 HMM HTM HBM HN HS HH hmm
    rcases Nat.lt_or_ge k n with g1 | g1
    · have hd : decide ((k : Int) < (n : Int)) = true := decide_eq_true (by omega)
      obtain ⟨ab, o, G, rfl, hab, hG⟩ := SlArg.at HA.out (by omega)
      obtain ⟨⟨z0, hz0, b0⟩, hlen, hc⟩ := hG k g1
      rw [hz0] at hc
      have c0 := (HBW.out.cell (p := ⟨ab, o + k * 1 + 0, none⟩) hab).trans (hc 0 (by omega))
      rw [Nat.add_zero, Nat.mul_one] at c0
      simp only [List.getElem?_cons_zero] at c0
      have i1 : (0 : Int) ≤ (k : Int) := by omega
      have f1 := lowF2 (k : Int)
      obtain ⟨j, hj⟩ : ∃ j : Nat, (k : Int) % 4 = (j : Int) := ⟨((k : Int) % 4).toNat, by omega⟩
      have hj4 : j < 4 := by omega
      rw [hj] at f1
      have HLe : Hid (Calls Try.prog 15 #[.pointer (some ⟨b.t, 0, none⟩), .agg #[.int .i64 9, .int .u8 0, .int .u8 (z0 : Int), .int .u8 0, .int .u8 0, .int .u8 0, .int .u8 0], .int .i64 (j : Int), .int .i64 (k : Int)] wr fun e w' => e = .returned (.int .i64 0) ∧ Tab w1.heap.size w' b (1 + k + 1) (flS F (putL E (pb z0) ((j : Int), (k : Int)))) ∧ ButB b.e wr w') :=
        Lib.hid (learn_ok HTb.out (by omega) (pb z0) (pb_good b0) (by show (1 : Int) ≤ 9; decide) (by show (9 : Int) ≤ 4094; decide) j (by show j < 4; exact hj4) (k : Int) (by show 0 % 2 = 0; rfl) rfl HFL.out.okE (.inr (by show ((0 + E.length : Nat) : Int) < 300; have h1 := HFL.out.len; have h2 := HML.out.le; omega)))
      have HF2 := Lib.hid (HFL.out.put b0 (v := (j : Int)) (by omega) (by omega) (k : Int))
      have HB0 := Lib.hid b0
      have HKN := Lib.hid (show k + 1 ≤ n by omega)
      clear hG hc hlen hz0 G hab hj hj4 b0
      go_upto_region 16 with (go_at_call 15; (with_reducible refine (HLe.out).mono ?_); rintro e y1 ⟨rfl, ht, hb⟩; have HT1 := Lib.hid ht; have HY1 := Lib.hid (hb.below HTb.out.be HTb.out.lt.2.2.2.2); have hm1 := HML.out.heap (hb.block w3.heap.size HML.out.lt (by have := HLT.out.2.2.2.2; omega)); obtain ⟨y2, hrun, hm2, htn⟩ := hm1.put z0 HB0.out (j : Int) (by unfold maxLen; omega); have hrun2 : (Instr.mapUpdate 74 (.map (some w3.heap.size)) (.int .u8 (z0 : Int)) (.int .i64 (j : Int))).run Try.prog y1 = .ok () y2 := hrun; have HM2 := Lib.hid hm2; have HT2 := Lib.hid (ht.turned htn HLT.out); have HY2 := Lib.hid (HY1.out.trans (turned_bel htn HM3.out)); clear ht hb hm1 hrun hm2 htn)
      go_wp2_with fail
      go_roundw
      case rel => exact ⟨k + 1, _, _, by go_num, HKN.out, by rw [← Nat.add_assoc]; exact HT2.out, HM2.out, HF2.out, HBW.out.trans (HY2.out.mono HW.out), Nat.le_trans HZ.out HY2.out.size⟩
      case measure => simp [intOf]; omega
    · obtain rfl : n = k := by omega
      have hd : decide ((n : Int) < (n : Int)) = false := decide_eq_false (by omega)
      have HFK : Hid (Calls Try.prog 12 #[.pointer (some ⟨b.t, 0, none⟩), .int .i64 A] wr fun e w' => e = .returned (.tuple #[]) ∧ Tab w1.heap.size w' b (1 + n) (flS F (E.filter (fun e => !decide (e.2.1 = A)))) ∧ ButB b.e wr w') := Lib.hid (flush_any HTb.out (by omega) A)
      have HLND := Lib.hid HML.out.nodup
      have HEND := Lib.hid HTb.out.me.nodup
      have HL256 : Hid (∀ e ∈ L, e.1 < 256) := Lib.hid (fun e he => (HFL.out.ok e he).1)
      go_upto_region 20 with (go_at_call 12; (with_reducible refine (HFK.out).mono ?_); rintro e y1 ⟨rfl, ht, hb⟩; have hm1 := HML.out.heap (hb.block w3.heap.size HML.out.lt (by have := HLT.out.2.2.2.2; omega)); have hl1 := hm1.lt; obtain ⟨y2, hrun, lf, cn, hrg, hleft, hgr, hsz⟩ := hm1.range; have hrun2 : (Instr.range 74 (.map (some w3.heap.size))).run Try.prog y1 = .ok (.pointer (some ⟨y1.heap.size, 0, none⟩)) y2 := hrun; have HRG := Lib.hid hrg; have HLF := Lib.hid hleft; have hbel : Below y1.heap.size y1 y2 := ⟨hgr.os, hgr.tape, hgr.output, hgr.size, fun k hk => hgr.block k hk (by simp)⟩; have HT2 := Lib.hid (ht.below hbel); have HY2 := Lib.hid ((hb.below HTb.out.be HTb.out.lt.2.2.2.2).trans (hbel.mono (Nat.le_trans HZ.out hb.size))); have HRB := Lib.hid hl1; clear ht hb hm1 hrun hrg hleft hgr hsz hbel hl1)
      go_loopw [10] (fun kv wr => Fl2 w1.heap.size w b w3.heap.size y1.heap.size F n E L A kv wr) (fun _ wr => wr.rangeLeft w3.heap.size y1.heap.size)
      case atStart => exact ⟨lf, cn, by rw [cnt_start (fun e he => (HLF.out _).2 ⟨e, he, rfl⟩)]; rfl, HRG.out, fun l hl => (HLF.out l).1 hl, HT2.out, HBW.out.trans (HY2.out.mono HW.out), Nat.le_trans HZ.out HY2.out.size⟩
      case round =>
        clear HT2 HY2 HRG HLF hrun2 HTb HML HBW HZ HFK
        obtain ⟨lf, cn, rfl, hr, hsub, ht, hb, hz⟩ := hrel
        rcases hr.next hsub 0 with ⟨hno, hrun⟩ | ⟨e, he, hlk, w2, cn2, hrun, hr2, hlt2, hg2, hs2, hen⟩
        · have hN : (cntL L lf A : Int) = ((0 + (E.filter (fun e => !decide (e.2.1 = A))).length : Nat) : Int) := by
            rw [cnt_end hno, (HFL.out.flush A).len, Nat.zero_add]
          have HLn : Hid (Calls Try.prog 13 #[.pointer (some ⟨b.t, 0, none⟩)] wr fun e w' => e = .returned (.int .i64 (cntL L lf A : Int)) ∧ Below wr.heap.size wr w') := Lib.hid (by rw [hN]; exact len_any ht (by omega))
          have HB := Lib.hid hb
          have HZ := Lib.hid hz
          clear hr hsub ht hb hz hno hN
          go_wp2_with (go_at_call 13; (with_reducible refine (HLn.out).mono ?_); rintro e y5 ⟨rfl, hb⟩; have HB5 := Lib.hid (HB.out.trans (hb.mono HB.out.size)); clear hb)
          go_ret
          exact ⟨by simp, HB5.out⟩
        · obtain ⟨bb, kz⟩ := e
          have hok := HFL.out.ok _ he
          dsimp only at hok hlk
          obtain ⟨kn, rfl⟩ : ∃ kn : Nat, kz = (kn : Int) := ⟨kz.toNat, by omega⟩
          have hkn : kn < 4 := by omega
          have hLT := HLT.out
          have hRB := HRB.out
          have ht2 : Tab w1.heap.size w2 b (1 + n) (flS F (E.filter (fun e => !decide (e.2.1 = A)))) := ht.heap (hg2.block _ ht.lt.1 (by simp; omega)) (hg2.block _ ht.lt.2.1 (by simp; omega)) (hg2.block _ ht.lt.2.2.1 (by simp; omega)) (hg2.block _ ht.lt.2.2.2.1 (by simp; omega)) (hg2.block _ ht.lt.2.2.2.2 (by simp; omega))
          have hb2 : Below w.heap.size w w2 := hb.trans ⟨hg2.os, hg2.tape, hg2.output, hg2.size, fun k hk => hg2.block k (by have := hb.size; omega) (by have := HW.out; have := HM3.out; simp; omega)⟩
          have hst := cnt_step (a := A) lf L HLND.out HL256.out _ he hlk
          have HOU := Lib.hid (fun u (hu : u < 4) => out_any ht2 u hu (pb bb) (pb_good hok.1) (HFL.out.flush A).okE)
          have hcle : cntL L lf A ≤ 60 := Nat.le_trans (List.length_filter_le _ _) (by have := hr.mapL.le; omega)
          have HR2 := Lib.hid hr2
          have HT2 := Lib.hid ht2
          have HB2 := Lib.hid hb2
          have HS := Lib.hid hsub
          have HE := Lib.hid he
          have HST := Lib.hid hst
          have HC2 := Lib.hid hlt2
          have HO := Lib.hid hr.left_eq
          have HZ2 := Lib.hid (Nat.le_trans hz hg2.size)
          have hrun1 : (Instr.next (.pointer (some ⟨y1.heap.size, 0, none⟩)) false 0).run Try.prog wr = .ok (.tuple #[.bool true, .int .u8 (bb : Int), .int .i64 (kn : Int)]) w2 := hrun
          have hen1 : (Instr.entry (.pointer (some ⟨y1.heap.size, 0, none⟩))).run Try.prog w2 = .ok (.tuple #[.int .u8 (bb : Int), .int .i64 (kn : Int)]) w2 := hen
          obtain ⟨N, hN⟩ : ∃ N : Nat, N = cntL L lf A := ⟨_, rfl⟩
          rw [← hN] at hcle HST ⊢
          have ew : wrap64 ((N : Int) + 1) = (N : Int) + 1 := by unfold wrap64; omega
          have q14 : bits .andNot .i64 15 1 = 14 := by kernel_rfl
          have q13 : bits .andNot .i64 15 2 = 13 := by kernel_rfl
          have q11 : bits .andNot .i64 15 4 = 11 := by kernel_rfl
          have q7 : bits .andNot .i64 15 8 = 7 := by kernel_rfl
          have p1 : bits .and .i64 1 3 = 1 := by kernel_rfl
          have p2 : bits .and .i64 2 3 = 2 := by kernel_rfl
          have p3 : bits .and .i64 3 3 = 3 := by kernel_rfl
          have p4 : bits .and .i64 4 3 = 0 := by kernel_rfl
          clear hr hsub ht hb hz hrun hr2 hlt2 hg2 hs2 hen ht2 hb2 hst hlk he hok hN hLT hRB
          rcases (show kn = 0 ∨ kn = 1 ∨ kn = 2 ∨ kn = 3 by omega) with rfl | rfl | rfl | rfl
          · by_cases hA : ((0 : Nat) : Int) = A
            · have hne : ((0 : Int) == A) = true := by rw [beq_iff_eq]; simpa using hA
              have HX : Hid (Calls Try.prog 11 #[.pointer (some ⟨b.t, 0, none⟩), .int .i64 1, .agg #[.int .i64 9, .int .u8 0, .int .u8 (bb : Int), .int .u8 0, .int .u8 0, .int .u8 0, .int .u8 0]] w2 fun e w' => e = .returned (.tuple #[.int .i64 13, .int .i64 0]) ∧ Below w2.heap.size w2 w') := Lib.hid (by
                have k9 := HOU.out 1 (by decide)
                rw [fl_out_hit HFL.out HLND.out (by rw [← hA]; exact HE.out) 1, show (pb bb).1 = 9 from rfl, fl_vlan, show bits .andNot .i64 15 ((2 ^ 1 : Nat) : Int) = 13 by kernel_rfl, show bits .and .i64 13 (15, (0 : Int)).2 = 0 by kernel_rfl] at k9
                exact k9)
              rw [if_pos hA] at HST
              clear hA
              clear HOU
              go_wp2_with (go_at_call 11; (with_reducible refine (HX.out).mono ?_); rintro e w4 ⟨rfl, hbc⟩; have HB4 := Lib.hid hbc; clear hbc)
              refine ⟨⟨fun x => lf x && !x.sameKey (MW.kl bb), cn2, ?_, HR2.out.belowW HB4.out, fun l hl => HS.out l (by simp only [Bool.and_eq_true] at hl; exact hl.1), HT2.out.below HB4.out, HB2.out.trans (HB4.out.mono HB2.out.size), Nat.le_trans HZ2.out HB4.out.size⟩, ?_⟩
              · rw [HST.out]; simp
              · rw [(HR2.out.belowW HB4.out).left_eq, HO.out]; exact HC2.out
            · have hne : ((0 : Int) == A) = false := by rw [beq_eq_false_iff_ne]; simpa using hA
              have HX : Hid (Calls Try.prog 11 #[.pointer (some ⟨b.t, 0, none⟩), .int .i64 1, .agg #[.int .i64 9, .int .u8 0, .int .u8 (bb : Int), .int .u8 0, .int .u8 0, .int .u8 0, .int .u8 0]] w2 fun e w' => e = .returned (.tuple #[.int .i64 1, .int .i64 0]) ∧ Below w2.heap.size w2 w') := Lib.hid (by
                have k9 := HOU.out 1 (by decide)
                rw [fl_out_no HFL.out HEND.out HE.out hA 1, show (pb bb).1 = 9 from rfl, fl_vlan, show bits .and .i64 (bits .andNot .i64 15 ((2 ^ 1 : Nat) : Int)) ((2 ^ 0 : Nat) : Int) = 1 by kernel_rfl, show bits .and .i64 1 (15, (0 : Int)).2 = 0 by kernel_rfl] at k9
                exact k9)
              rw [if_neg hA] at HST
              clear HOU
              go_wp2_with (go_at_call 11; (with_reducible refine (HX.out).mono ?_); rintro e w4 ⟨rfl, hbc⟩; have HB4 := Lib.hid hbc; clear hbc)
              refine ⟨⟨fun x => lf x && !x.sameKey (MW.kl bb), cn2, ?_, HR2.out.belowW HB4.out, fun l hl => HS.out l (by simp only [Bool.and_eq_true] at hl; exact hl.1), HT2.out.below HB4.out, HB2.out.trans (HB4.out.mono HB2.out.size), Nat.le_trans HZ2.out HB4.out.size⟩, ?_⟩
              · rw [HST.out]; simp
              · rw [(HR2.out.belowW HB4.out).left_eq, HO.out]; exact HC2.out
          · by_cases hA : ((1 : Nat) : Int) = A
            · have hne : ((1 : Int) == A) = true := by rw [beq_iff_eq]; simpa using hA
              have HX : Hid (Calls Try.prog 11 #[.pointer (some ⟨b.t, 0, none⟩), .int .i64 2, .agg #[.int .i64 9, .int .u8 0, .int .u8 (bb : Int), .int .u8 0, .int .u8 0, .int .u8 0, .int .u8 0]] w2 fun e w' => e = .returned (.tuple #[.int .i64 11, .int .i64 0]) ∧ Below w2.heap.size w2 w') := Lib.hid (by
                have k9 := HOU.out 2 (by decide)
                rw [fl_out_hit HFL.out HLND.out (by rw [← hA]; exact HE.out) 2, show (pb bb).1 = 9 from rfl, fl_vlan, show bits .andNot .i64 15 ((2 ^ 2 : Nat) : Int) = 11 by kernel_rfl, show bits .and .i64 11 (15, (0 : Int)).2 = 0 by kernel_rfl] at k9
                exact k9)
              rw [if_pos hA] at HST
              clear hA
              clear HOU
              go_wp2_with (go_at_call 11; (with_reducible refine (HX.out).mono ?_); rintro e w4 ⟨rfl, hbc⟩; have HB4 := Lib.hid hbc; clear hbc)
              refine ⟨⟨fun x => lf x && !x.sameKey (MW.kl bb), cn2, ?_, HR2.out.belowW HB4.out, fun l hl => HS.out l (by simp only [Bool.and_eq_true] at hl; exact hl.1), HT2.out.below HB4.out, HB2.out.trans (HB4.out.mono HB2.out.size), Nat.le_trans HZ2.out HB4.out.size⟩, ?_⟩
              · rw [HST.out]; simp
              · rw [(HR2.out.belowW HB4.out).left_eq, HO.out]; exact HC2.out
            · have hne : ((1 : Int) == A) = false := by rw [beq_eq_false_iff_ne]; simpa using hA
              have HX : Hid (Calls Try.prog 11 #[.pointer (some ⟨b.t, 0, none⟩), .int .i64 2, .agg #[.int .i64 9, .int .u8 0, .int .u8 (bb : Int), .int .u8 0, .int .u8 0, .int .u8 0, .int .u8 0]] w2 fun e w' => e = .returned (.tuple #[.int .i64 2, .int .i64 0]) ∧ Below w2.heap.size w2 w') := Lib.hid (by
                have k9 := HOU.out 2 (by decide)
                rw [fl_out_no HFL.out HEND.out HE.out hA 2, show (pb bb).1 = 9 from rfl, fl_vlan, show bits .and .i64 (bits .andNot .i64 15 ((2 ^ 2 : Nat) : Int)) ((2 ^ 1 : Nat) : Int) = 2 by kernel_rfl, show bits .and .i64 2 (15, (0 : Int)).2 = 0 by kernel_rfl] at k9
                exact k9)
              rw [if_neg hA] at HST
              clear HOU
              go_wp2_with (go_at_call 11; (with_reducible refine (HX.out).mono ?_); rintro e w4 ⟨rfl, hbc⟩; have HB4 := Lib.hid hbc; clear hbc)
              refine ⟨⟨fun x => lf x && !x.sameKey (MW.kl bb), cn2, ?_, HR2.out.belowW HB4.out, fun l hl => HS.out l (by simp only [Bool.and_eq_true] at hl; exact hl.1), HT2.out.below HB4.out, HB2.out.trans (HB4.out.mono HB2.out.size), Nat.le_trans HZ2.out HB4.out.size⟩, ?_⟩
              · rw [HST.out]; simp
              · rw [(HR2.out.belowW HB4.out).left_eq, HO.out]; exact HC2.out
          · by_cases hA : ((2 : Nat) : Int) = A
            · have hne : ((2 : Int) == A) = true := by rw [beq_iff_eq]; simpa using hA
              have HX : Hid (Calls Try.prog 11 #[.pointer (some ⟨b.t, 0, none⟩), .int .i64 3, .agg #[.int .i64 9, .int .u8 0, .int .u8 (bb : Int), .int .u8 0, .int .u8 0, .int .u8 0, .int .u8 0]] w2 fun e w' => e = .returned (.tuple #[.int .i64 7, .int .i64 0]) ∧ Below w2.heap.size w2 w') := Lib.hid (by
                have k9 := HOU.out 3 (by decide)
                rw [fl_out_hit HFL.out HLND.out (by rw [← hA]; exact HE.out) 3, show (pb bb).1 = 9 from rfl, fl_vlan, show bits .andNot .i64 15 ((2 ^ 3 : Nat) : Int) = 7 by kernel_rfl, show bits .and .i64 7 (15, (0 : Int)).2 = 0 by kernel_rfl] at k9
                exact k9)
              rw [if_pos hA] at HST
              clear hA
              clear HOU
              go_wp2_with (go_at_call 11; (with_reducible refine (HX.out).mono ?_); rintro e w4 ⟨rfl, hbc⟩; have HB4 := Lib.hid hbc; clear hbc)
              refine ⟨⟨fun x => lf x && !x.sameKey (MW.kl bb), cn2, ?_, HR2.out.belowW HB4.out, fun l hl => HS.out l (by simp only [Bool.and_eq_true] at hl; exact hl.1), HT2.out.below HB4.out, HB2.out.trans (HB4.out.mono HB2.out.size), Nat.le_trans HZ2.out HB4.out.size⟩, ?_⟩
              · rw [HST.out]; simp
              · rw [(HR2.out.belowW HB4.out).left_eq, HO.out]; exact HC2.out
            · have hne : ((2 : Int) == A) = false := by rw [beq_eq_false_iff_ne]; simpa using hA
              have HX : Hid (Calls Try.prog 11 #[.pointer (some ⟨b.t, 0, none⟩), .int .i64 3, .agg #[.int .i64 9, .int .u8 0, .int .u8 (bb : Int), .int .u8 0, .int .u8 0, .int .u8 0, .int .u8 0]] w2 fun e w' => e = .returned (.tuple #[.int .i64 4, .int .i64 0]) ∧ Below w2.heap.size w2 w') := Lib.hid (by
                have k9 := HOU.out 3 (by decide)
                rw [fl_out_no HFL.out HEND.out HE.out hA 3, show (pb bb).1 = 9 from rfl, fl_vlan, show bits .and .i64 (bits .andNot .i64 15 ((2 ^ 3 : Nat) : Int)) ((2 ^ 2 : Nat) : Int) = 4 by kernel_rfl, show bits .and .i64 4 (15, (0 : Int)).2 = 0 by kernel_rfl] at k9
                exact k9)
              rw [if_neg hA] at HST
              clear HOU
              go_wp2_with (go_at_call 11; (with_reducible refine (HX.out).mono ?_); rintro e w4 ⟨rfl, hbc⟩; have HB4 := Lib.hid hbc; clear hbc)
              refine ⟨⟨fun x => lf x && !x.sameKey (MW.kl bb), cn2, ?_, HR2.out.belowW HB4.out, fun l hl => HS.out l (by simp only [Bool.and_eq_true] at hl; exact hl.1), HT2.out.below HB4.out, HB2.out.trans (HB4.out.mono HB2.out.size), Nat.le_trans HZ2.out HB4.out.size⟩, ?_⟩
              · rw [HST.out]; simp
              · rw [(HR2.out.belowW HB4.out).left_eq, HO.out]; exact HC2.out
          · by_cases hA : ((3 : Nat) : Int) = A
            · have hne : ((3 : Int) == A) = true := by rw [beq_iff_eq]; simpa using hA
              have HX : Hid (Calls Try.prog 11 #[.pointer (some ⟨b.t, 0, none⟩), .int .i64 0, .agg #[.int .i64 9, .int .u8 0, .int .u8 (bb : Int), .int .u8 0, .int .u8 0, .int .u8 0, .int .u8 0]] w2 fun e w' => e = .returned (.tuple #[.int .i64 14, .int .i64 0]) ∧ Below w2.heap.size w2 w') := Lib.hid (by
                have k9 := HOU.out 0 (by decide)
                rw [fl_out_hit HFL.out HLND.out (by rw [← hA]; exact HE.out) 0, show (pb bb).1 = 9 from rfl, fl_vlan, show bits .andNot .i64 15 ((2 ^ 0 : Nat) : Int) = 14 by kernel_rfl, show bits .and .i64 14 (15, (0 : Int)).2 = 0 by kernel_rfl] at k9
                exact k9)
              rw [if_pos hA] at HST
              clear hA
              clear HOU
              go_wp2_with (go_at_call 11; (with_reducible refine (HX.out).mono ?_); rintro e w4 ⟨rfl, hbc⟩; have HB4 := Lib.hid hbc; clear hbc)
              refine ⟨⟨fun x => lf x && !x.sameKey (MW.kl bb), cn2, ?_, HR2.out.belowW HB4.out, fun l hl => HS.out l (by simp only [Bool.and_eq_true] at hl; exact hl.1), HT2.out.below HB4.out, HB2.out.trans (HB4.out.mono HB2.out.size), Nat.le_trans HZ2.out HB4.out.size⟩, ?_⟩
              · rw [HST.out]; simp
              · rw [(HR2.out.belowW HB4.out).left_eq, HO.out]; exact HC2.out
            · have hne : ((3 : Int) == A) = false := by rw [beq_eq_false_iff_ne]; simpa using hA
              have HX : Hid (Calls Try.prog 11 #[.pointer (some ⟨b.t, 0, none⟩), .int .i64 0, .agg #[.int .i64 9, .int .u8 0, .int .u8 (bb : Int), .int .u8 0, .int .u8 0, .int .u8 0, .int .u8 0]] w2 fun e w' => e = .returned (.tuple #[.int .i64 8, .int .i64 0]) ∧ Below w2.heap.size w2 w') := Lib.hid (by
                have k9 := HOU.out 0 (by decide)
                rw [fl_out_no HFL.out HEND.out HE.out hA 0, show (pb bb).1 = 9 from rfl, fl_vlan, show bits .and .i64 (bits .andNot .i64 15 ((2 ^ 0 : Nat) : Int)) ((2 ^ 3 : Nat) : Int) = 8 by kernel_rfl, show bits .and .i64 8 (15, (0 : Int)).2 = 0 by kernel_rfl] at k9
                exact k9)
              rw [if_neg hA] at HST
              clear HOU
              go_wp2_with (go_at_call 11; (with_reducible refine (HX.out).mono ?_); rintro e w4 ⟨rfl, hbc⟩; have HB4 := Lib.hid hbc; clear hbc)
              refine ⟨⟨fun x => lf x && !x.sameKey (MW.kl bb), cn2, ?_, HR2.out.belowW HB4.out, fun l hl => HS.out l (by simp only [Bool.and_eq_true] at hl; exact hl.1), HT2.out.below HB4.out, HB2.out.trans (HB4.out.mono HB2.out.size), Nat.le_trans HZ2.out HB4.out.size⟩, ?_⟩
              · rw [HST.out]; simp
              · rw [(HR2.out.belowW HB4.out).left_eq, HO.out]; exact HC2.out

theorem fdbFlush_holds : Rows.FdbFlushSaid := fdbFlush_of (fun v n x1 w ha _ => by
  obtain ⟨p, c, rfl⟩ := ha.slice
  exact flush_law p n c x1 w ha)

end Go.Proofs.Ytkbodcgamfkegaa
