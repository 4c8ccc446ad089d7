/- For any clock and any list of what ports have heard BestQuiet answers true: a port that hears nothing, or something old, is as one that never did; a link that is gone is Off. No condition. -/
import Derived.Test.YtihddpoaemhlnaaFBestQuiet
import Derived.Test.YtihddpoaemhlnaaBtLaw
import Derived.Test.YtihddpoaemhlnaaBtApp
namespace Go.Proofs.Ytihddpoaemhlnaa
open Go.RowKit Go.Joins

/-- What is left of what a port has heard, if its link is gone or that is old. -/
def clnH (h : Hd) : Hd := if h.up && h.ok then h else ⟨h.up, false, ⟨⟨0, 0, 0, 0⟩, 0, 0, 0, 0⟩⟩
def clnL (F : Nat → Hd) (k : Nat) : List Hd := (List.range k).map fun i => clnH (F i)
theorem clnL_succ (F : Nat → Hd) (k : Nat) : clnL F k ++ [clnH (F k)] = clnL F (k + 1) := by unfold clnL; rw [List.range_succ, List.map_append]; rfl
theorem clnL_len (F : Nat → Hd) (k : Nat) : (clnL F k).length = k := by unfold clnL; simp
def d0 : Hd := ⟨false, false, ⟨⟨0, 0, 0, 0⟩, 0, 0, 0, 0⟩⟩
theorem clnL_at (F : Nat → Hd) {n k : Nat} (h : k < n) : (clnL F n).getD k d0 = clnH (F k) := by
  unfold clnL
  rw [List.getD_eq_getElem?_getD]
  simp [h]
theorem take_cln (p : Pri) (c : Vc) (k : Nat) (h : Hd) : takeB p c k (clnH h) = takeB p c k h := by
  obtain ⟨up, ok, v⟩ := h
  unfold clnH
  cases up <;> cases ok <;> rfl
theorem chs_cln (p : Pri) (F : Nat → Hd) (n : Nat) : ∀ k, k ≤ n → chs p (fun i => (clnL F n).getD i d0) k = chs p F k
  | 0, _ => rfl
  | k + 1, hk => by
    rw [chs_succ, chs_succ, chs_cln p F n k (by omega)]
    rw [clnL_at F (by omega), take_cln]
    cases h : takeB p (chs p F k) k (F k) with
    | false => rfl
    | true =>
      rw [if_pos rfl, if_pos rfl]
      have : ((F k).up && (F k).ok) = true := by
        unfold takeB at h
        simp only [Bool.and_eq_true] at h ⊢
        exact h.1.1
      unfold clnH
      rw [if_pos this]
theorem role_cln (id : Int) (c : Vc) (k : Int) (h : Hd) : roleV id c k (clnH h) = roleV id c k h := by
  obtain ⟨up, ok, v⟩ := h
  unfold clnH roleV
  cases up <;> cases ok <;> simp
theorem roles_cln (id : Int) (c : Vc) (F : Nat → Hd) (n : Nat) : rolesL id c (fun i => (clnL F n).getD i d0) n = rolesL id c F n := by
  unfold rolesL
  apply List.map_congr_left
  intro k hk
  rw [List.mem_range] at hk
  show roleV id c k ((clnL F n).getD k d0) = _
  rw [clnL_at F hk, role_cln]
def QuRel2 (w : World) (n : Nat) (W : World) (iv : Value) (wr : World) : Prop := ∃ k : Nat, k ≤ n ∧ iv = .int .i64 (k : Int) ∧ ∃ m, wr = W.drewN m
def QuRel (w : World) (p : Pri) (F : Nat → Hd) (n : Nat) (c : Vc) (b g : Nat) (l : List Int) (lv iv : Value) (wr : World) : Prop := ∃ k : Nat, k ≤ n ∧ iv = .int .i64 (k : Int) ∧ LawC w p c b g l wr ∧ OwnR HC 37 10 w.heap.size wr lv (clnL F k)
set_option maxRecDepth 20000 in
set_option maxHeartbeats 4000000 in
theorem bestQuiet_any (p : Pri) {w : World} {v : Value} {n : Nat} {F : Nat → Hd} (hA : HArg w v n F) : Calls Try.prog 7 #[.agg (PC p), v] w fun e w' => e = .returned (.bool true) ∧ Below w.heap.size w w' := by
  obtain ⟨a, c, rfl⟩ := hA.slice
  have HA := Lib.hid hA
  have HS := Lib.hid (LawW.start w p)
  have HH := Lib.hid (fun W => head_ret W)
  unfold PC at HS ⊢
  rcases Nat.lt_or_ge 30 n with g30 | g30
  · have hd : decide ((30 : Int) < (n : Int)) = true := decide_eq_true (by omega)
    clear hA
    go_enter Try.func7, Try.ntmps7
    go_wp2_with (go_at_call 17; (with_reducible refine (HH.out _).mono ?_); rintro e w1 ⟨rfl, hb⟩)
    go_ret
    exact ⟨rfl, bTr (bAl (bRef w) _) hb⟩
  have hd30 : decide ((30 : Int) < (n : Int)) = false := decide_eq_false (by omega)
  have HN := Lib.hid g30
  have HCh := Lib.hid (fun W (hb : Below w.heap.size w W) => Choose_any p (hA.below hb) (Nat.le_trans g30 (by decide)))
  have HC2' := Lib.hid (fun W v (h : OwnR HC 37 10 w.heap.size W v (clnL F n)) => Choose_any p (harg_own h d0) (by rw [clnL_len]; exact Nat.le_trans g30 (by decide)))
  have hll := rolesL_len p.id (chs p F n) F n
  unfold PC Chosen at HCh HC2'
  rw [clnL_len, chs_cln p F n n (Nat.le_refl _), roles_cln, hll] at HC2'
  rw [hll] at HCh
  have HLn := Lib.hid hll
  generalize rolesL p.id (chs p F n) F n = l at *
  generalize chs p F n = cc at *
  clear hA g30 hll
  have hne : ((n : Int) != (n : Int)) = false := by simp
  have heq := fun W => run_neVs cc.r.one cc.r.cls cc.r.two cc.r.id cc.steps cc.from_ cc.port cc.at_ W
  unfold VC at HCh HC2'
  go_enter Try.func7, Try.ntmps7
  go_upto_region 6 with (first
    | (go_at_call 17; (with_reducible refine (HH.out _).mono ?_); rintro e w1 ⟨rfl, hb⟩; have HS1 := Lib.hid (HS.out.below hb); clear hb)
    | ((with_reducible refine at_loadP ?_); refine wpList_loadW rfl _ _ rfl _ _ rfl (#[.int .i64 p.one, .int .i64 p.cls, .int .i64 p.two, .int .i64 p.id]) _ (range_whole HS1.out.own) Try.underlying23 rfl (by kernel_rfl) ?_)
    | (go_at_call 18; (with_reducible refine (HCh.out _ HS1.out.bel).mono ?_); rintro e w2 ⟨g, rfl, hg, hrow, hb⟩; have HC2 := Lib.hid (LawC.start (c := cc) HS1.out hb hrow); clear hb hrow hg))
  rw [show VC cc = #[.int .i64 cc.r.one, .int .i64 cc.r.cls, .int .i64 cc.r.two, .int .i64 cc.r.id, .int .i64 cc.steps, .int .i64 cc.from_, .int .i64 cc.port, .int .i64 cc.at_] from rfl] at HC2
  generalize hW : w2.alloc (.cells #[.int .i64 cc.r.one, .int .i64 cc.r.cls, .int .i64 cc.r.two, .int .i64 cc.r.id, .int .i64 cc.steps, .int .i64 cc.from_, .int .i64 cc.port, .int .i64 cc.at_] 25) = W at *
  generalize w2.heap.size = b at *
  clear hW HS HS1 HH HCh hd30
  go_wp2_with fail
  have HO := Lib.hid (OwnR.start (C := HC) (e := 37) (m := 10) HC2.out.law.bel.size)
  have HC3 := Lib.hid (HC2.out.below (bAl (bRef W) (.cells #[] 37)))
  go_loopw [7, 27] (fun lv iv wr => QuRel w p F n cc b g l lv iv wr) (fun _ iv _ => n - (intOf iv).toNat)
  case atStart => exact ⟨0, by omega, rfl, HC3.out, HO.out⟩
  case round =>
    clear HC2 HO HC3
    obtain ⟨k, hk, rfl, hs, ho⟩ := hrel
    have HS := Lib.hid hs
    have HO := Lib.hid ho
    clear hs
    have hn30 := HN.out
    rcases Nat.lt_or_ge k n with g1 | g1
    · obtain ⟨lp, lc, hlv⟩ := ho.slice
      rw [clnL_len] at hlv
      subst hlv
      clear ho
      have hd : decide ((k : Int) < (n : Int)) = true := decide_eq_true (by omega)
      obtain ⟨ba, o, rfl, hlt, hall⟩ := HA.out.at (by omega)
      have HR := Lib.hid (range_below (hall k g1) HS.out.law.bel hlt)
      have HL := Lib.hid (clnL_succ F k)
      clear hall
      generalize F k = h at *
      obtain ⟨up, ok, v⟩ := h
      rw [show HC ⟨up, ok, v⟩ = #[.bool up, .bool ok, .int .i64 v.r.one, .int .i64 v.r.cls, .int .i64 v.r.two, .int .i64 v.r.id, .int .i64 v.steps, .int .i64 v.from_, .int .i64 v.port, .int .i64 v.at_] from rfl] at HR
      cases hu : up && ok with
      | true =>
        simp only [Bool.and_eq_true] at hu
        obtain ⟨rfl, rfl⟩ := hu
        have hcl : clnH ⟨true, true, v⟩ = ⟨true, true, v⟩ := rfl
        rw [hcl] at HL
        clear hcl
        have HG : Hid (((wr.alloc (.cells #[.bool true, .bool true, .int .i64 v.r.one, .int .i64 v.r.cls, .int .i64 v.r.two, .int .i64 v.r.id, .int .i64 v.steps, .int .i64 v.from_, .int .i64 v.port, .int .i64 v.at_] 37)).alloc (.cells #[.bool true, .bool true, .int .i64 v.r.one, .int .i64 v.r.cls, .int .i64 v.r.two, .int .i64 v.r.id, .int .i64 v.steps, .int .i64 v.from_, .int .i64 v.port, .int .i64 v.at_] 37)).rangeAt (wr.heap.size + 1) 0 (HC (⟨true, true, v⟩ : Hd)).toList) := Lib.hid (range_whole (heap_alloc2_new wr _ _))
        go_wp2_with (first
          | ((with_reducible refine at_loadH ?_); refine wpList_loadW rfl _ _ rfl _ _ rfl #[.bool true, .bool true, .int .i64 v.r.one, .int .i64 v.r.cls, .int .i64 v.r.two, .int .i64 v.r.id, .int .i64 v.steps, .int .i64 v.from_, .int .i64 v.port, .int .i64 v.at_] _ HR.out Try.underlying37 rfl (by kernel_rfl) ?_)
          | ((with_reducible refine at_append ?_); refine wpList_app1 HC 10 72 37 33 Try.infoH Try.underlying33 rfl (by decide) (by decide) HC_size HC_one rfl _ _ rfl w.heap.size _ (clnL F k) (⟨true, true, v⟩ : Hd) (wr.heap.size + 1) rfl rfl (HO.out.below (bAl (bAl (bRef wr) _) _)) (Nat.le_trans HS.out.law.bel.size (by simp; omega)) HG.out (by rw [clnL_len]; omega) ?_; intro v' w4 hr hg4; have HS4 := Lib.hid ((HS.out.below (bAl (bAl (bRef wr) _) _)).grown (HO.out.below (bAl (bAl (bRef wr) (.cells #[.bool true, .bool true, .int .i64 v.r.one, .int .i64 v.r.cls, .int .i64 v.r.two, .int .i64 v.r.id, .int .i64 v.steps, .int .i64 v.from_, .int .i64 v.port, .int .i64 v.at_] 37)) (.cells #[.bool true, .bool true, .int .i64 v.r.one, .int .i64 v.r.cls, .int .i64 v.r.two, .int .i64 v.r.id, .int .i64 v.steps, .int .i64 v.from_, .int .i64 v.port, .int .i64 v.at_] 37))) (Nat.le_refl _) (Nat.le_trans HS.out.law.bel.size (by simp; omega)) (by decide) (by decide) (by decide) hg4); have HO4 := Lib.hid hr; clear hr hg4))
        go_roundw
        case rel => exact ⟨k + 1, by omega, by go_num, HS4.out, by rw [HL.out] at HO4; exact HO4.out⟩
        case measure => simp [intOf]; omega
      | false =>
        cases up with
        | false =>
          have hcl : clnH ⟨false, ok, v⟩ = ⟨false, false, ⟨⟨0, 0, 0, 0⟩, 0, 0, 0, 0⟩⟩ := rfl
          rw [hcl] at HL
          clear hcl hu
          have HG : Hid (((wr.alloc (.cells #[.bool false, .bool false, .int .i64 0, .int .i64 0, .int .i64 0, .int .i64 0, .int .i64 0, .int .i64 0, .int .i64 0, .int .i64 0] 37)).alloc (.cells #[.bool false, .bool false, .int .i64 0, .int .i64 0, .int .i64 0, .int .i64 0, .int .i64 0, .int .i64 0, .int .i64 0, .int .i64 0] 37)).rangeAt (wr.heap.size + 1) 0 (HC (⟨false, false, ⟨⟨0, 0, 0, 0⟩, 0, 0, 0, 0⟩⟩ : Hd)).toList) := Lib.hid (range_whole (heap_alloc2_new wr _ _))
          go_wp2_with (first
            | ((with_reducible refine at_loadH ?_); refine wpList_loadW rfl _ _ rfl _ _ rfl #[.bool false, .bool ok, .int .i64 v.r.one, .int .i64 v.r.cls, .int .i64 v.r.two, .int .i64 v.r.id, .int .i64 v.steps, .int .i64 v.from_, .int .i64 v.port, .int .i64 v.at_] _ HR.out Try.underlying37 rfl (by kernel_rfl) ?_)
            | ((with_reducible refine at_append ?_); refine wpList_app1 HC 10 72 37 33 Try.infoH Try.underlying33 rfl (by decide) (by decide) HC_size HC_one rfl _ _ rfl w.heap.size _ (clnL F k) (⟨false, false, ⟨⟨0, 0, 0, 0⟩, 0, 0, 0, 0⟩⟩ : Hd) (wr.heap.size + 1) rfl rfl (HO.out.below (bAl (bAl (bRef wr) _) _)) (Nat.le_trans HS.out.law.bel.size (by simp; omega)) HG.out (by rw [clnL_len]; omega) ?_; intro v' w4 hr hg4; have HS4 := Lib.hid ((HS.out.below (bAl (bAl (bRef wr) _) _)).grown (HO.out.below (bAl (bAl (bRef wr) (.cells #[.bool false, .bool false, .int .i64 0, .int .i64 0, .int .i64 0, .int .i64 0, .int .i64 0, .int .i64 0, .int .i64 0, .int .i64 0] 37)) (.cells #[.bool false, .bool false, .int .i64 0, .int .i64 0, .int .i64 0, .int .i64 0, .int .i64 0, .int .i64 0, .int .i64 0, .int .i64 0] 37))) (Nat.le_refl _) (Nat.le_trans HS.out.law.bel.size (by simp; omega)) (by decide) (by decide) (by decide) hg4); have HO4 := Lib.hid hr; clear hr hg4))
          go_roundw
          case rel => exact ⟨k + 1, by omega, by go_num, HS4.out, by rw [HL.out] at HO4; exact HO4.out⟩
          case measure => simp [intOf]; omega
        | true =>
          obtain rfl : ok = false := by simpa using hu
          have hcl : clnH ⟨true, false, v⟩ = ⟨true, false, ⟨⟨0, 0, 0, 0⟩, 0, 0, 0, 0⟩⟩ := rfl
          rw [hcl] at HL
          clear hcl hu
          have HG : Hid (((wr.alloc (.cells #[.bool true, .bool false, .int .i64 0, .int .i64 0, .int .i64 0, .int .i64 0, .int .i64 0, .int .i64 0, .int .i64 0, .int .i64 0] 37)).alloc (.cells #[.bool true, .bool false, .int .i64 0, .int .i64 0, .int .i64 0, .int .i64 0, .int .i64 0, .int .i64 0, .int .i64 0, .int .i64 0] 37)).rangeAt (wr.heap.size + 1) 0 (HC (⟨true, false, ⟨⟨0, 0, 0, 0⟩, 0, 0, 0, 0⟩⟩ : Hd)).toList) := Lib.hid (range_whole (heap_alloc2_new wr _ _))
          go_wp2_with (first
            | ((with_reducible refine at_loadH ?_); refine wpList_loadW rfl _ _ rfl _ _ rfl #[.bool true, .bool false, .int .i64 v.r.one, .int .i64 v.r.cls, .int .i64 v.r.two, .int .i64 v.r.id, .int .i64 v.steps, .int .i64 v.from_, .int .i64 v.port, .int .i64 v.at_] _ HR.out Try.underlying37 rfl (by kernel_rfl) ?_)
            | ((with_reducible refine at_append ?_); refine wpList_app1 HC 10 72 37 33 Try.infoH Try.underlying33 rfl (by decide) (by decide) HC_size HC_one rfl _ _ rfl w.heap.size _ (clnL F k) (⟨true, false, ⟨⟨0, 0, 0, 0⟩, 0, 0, 0, 0⟩⟩ : Hd) (wr.heap.size + 1) rfl rfl (HO.out.below (bAl (bAl (bRef wr) _) _)) (Nat.le_trans HS.out.law.bel.size (by simp; omega)) HG.out (by rw [clnL_len]; omega) ?_; intro v' w4 hr hg4; have HS4 := Lib.hid ((HS.out.below (bAl (bAl (bRef wr) _) _)).grown (HO.out.below (bAl (bAl (bRef wr) (.cells #[.bool true, .bool false, .int .i64 0, .int .i64 0, .int .i64 0, .int .i64 0, .int .i64 0, .int .i64 0, .int .i64 0, .int .i64 0] 37)) (.cells #[.bool true, .bool false, .int .i64 0, .int .i64 0, .int .i64 0, .int .i64 0, .int .i64 0, .int .i64 0, .int .i64 0, .int .i64 0] 37))) (Nat.le_refl _) (Nat.le_trans HS.out.law.bel.size (by simp; omega)) (by decide) (by decide) (by decide) hg4); have HO4 := Lib.hid hr; clear hr hg4))
          go_roundw
          case rel => exact ⟨k + 1, by omega, by go_num, HS4.out, by rw [HL.out] at HO4; exact HO4.out⟩
          case measure => simp [intOf]; omega
    · obtain rfl : k = n := by omega
      have hd : decide ((k : Int) < (k : Int)) = false := decide_eq_false (by omega)
      go_upto_region 16 with (first
        | ((with_reducible refine at_loadP ?_); refine wpList_loadW rfl _ _ rfl _ _ rfl (#[.int .i64 p.one, .int .i64 p.cls, .int .i64 p.two, .int .i64 p.id]) _ (range_whole HS.out.law.own) Try.underlying23 rfl (by kernel_rfl) ?_)
        | (go_at_call 18; (with_reducible refine (HC2'.out _ _ HO.out).mono ?_); rintro e w3 ⟨g2, rfl, hg2, hrow2, hb2⟩; have HS2 := Lib.hid (HS.out.below hb2); have HLC := Lib.hid (LawC.start (c := cc) HS.out.law hb2 hrow2); clear hb2 hrow2 hg2))
      rw [show VC cc = #[.int .i64 cc.r.one, .int .i64 cc.r.cls, .int .i64 cc.r.two, .int .i64 cc.r.id, .int .i64 cc.steps, .int .i64 cc.from_, .int .i64 cc.port, .int .i64 cc.at_] from rfl] at HLC
      have HS3 := Lib.hid (HS2.out.below (bAl (bRef w3) (.cells #[.int .i64 cc.r.one, .int .i64 cc.r.cls, .int .i64 cc.r.two, .int .i64 cc.r.id, .int .i64 cc.steps, .int .i64 cc.from_, .int .i64 cc.port, .int .i64 cc.at_] 25)))
      generalize hW2 : w3.alloc (.cells #[.int .i64 cc.r.one, .int .i64 cc.r.cls, .int .i64 cc.r.two, .int .i64 cc.r.id, .int .i64 cc.steps, .int .i64 cc.from_, .int .i64 cc.port, .int .i64 cc.at_] 25) = W2 at *
      generalize w3.heap.size = b2 at *
      clear hW2 HS2
      go_wp2_with (first
        | ((with_reducible refine at_loadV ?_); refine wpList_loadW rfl _ _ rfl _ _ rfl #[.int .i64 cc.r.one, .int .i64 cc.r.cls, .int .i64 cc.r.two, .int .i64 cc.r.id, .int .i64 cc.steps, .int .i64 cc.from_, .int .i64 cc.port, .int .i64 cc.at_] _ (range_whole HS3.out.chn) Try.underlying25 rfl (by kernel_rfl) ?_)
        | ((with_reducible refine at_loadV ?_); refine wpList_loadW rfl _ _ rfl _ _ rfl #[.int .i64 cc.r.one, .int .i64 cc.r.cls, .int .i64 cc.r.two, .int .i64 cc.r.id, .int .i64 cc.steps, .int .i64 cc.from_, .int .i64 cc.port, .int .i64 cc.at_] _ (range_whole HLC.out.chn) Try.underlying25 rfl (by kernel_rfl) ?_))
      go_loopw [65] (fun iv wr => QuRel2 w k W2 iv wr) (fun iv _ => k - (intOf iv).toNat)
      case atStart => exact ⟨0, by omega, rfl, 0, rfl⟩
      case round =>
        obtain ⟨i, hi, rfl, m, rfl⟩ := hrel
        have hn30 := HN.out
        have hbd := HS3.out.law.bel
        rcases Nat.lt_or_ge i k with g1 | g1
        · have hd1 : decide ((i : Int) < (k : Int)) = true := decide_eq_true (by omega)
          have hir : IntKind.i64.wrap (i : Int) = (i : Int) := by rw [IntKind.wrap_i64]; omega
          obtain ⟨x, hx⟩ : ∃ x, l[i]? = some x := ⟨_, List.getElem?_eq_getElem (by rw [HLn.out]; exact g1)⟩
          have hI : (IC l)[i]? = some (.int .i64 x) := by unfold IC; simp [hx]
          have c1 : W2.cell? ⟨g, i, none⟩ = some (.int .i64 x) := (cell_of_row _ _ i _ _ _ HS3.out.row).trans hI
          have c2 : W2.cell? ⟨g2, i, none⟩ = some (.int .i64 x) := (cell_of_row _ _ i _ _ _ HLC.out.row).trans hI
          clear hI hx
          have hxx : (x != x) = false := by simp
          clear hbd
          go_upto_region 21 with (fail)
          go_quiet (fail)
          go_wp2_with fail
          go_roundw
          case rel => exact ⟨i + 1, by omega, by go_num, _, rfl⟩
          case measure => simp [intOf]; omega
        · obtain rfl : i = k := by omega
          have HBD := Lib.hid (bDr hbd m)
          clear hbd
          go_wp2_with fail
          go_ret
          exact ⟨rfl, HBD.out⟩


theorem bestQuiet_holds : Rows.BestQuietSaid := bestQuiet_of (fun x0 x1 x2 x3 v n w _ _ _ _ h => by
  obtain ⟨F, hF⟩ := harg_of h
  exact bestQuiet_any ⟨x0, x1, x2, x3⟩ hF)

end Go.Proofs.Ytihddpoaemhlnaa
