/- For any clock and any list of what ports have heard BestTop answers true: the best clock of all is told by nobody, and all its links are Master. No condition. -/
import Derived.Test.YtihddpoaemhlnaaFBestTop
import Derived.Test.YtihddpoaemhlnaaBtLaw
namespace Go.Proofs.Ytihddpoaemhlnaa
open Go.RowKit Go.Joins

def NoB (p : Pri) (F : Nat → Hd) (k : Nat) : Prop := ∀ j, j < k → ¬ (F j).v.r.cmp p < 0
def TopRel (w : World) (p : Pri) (F : Nat → Hd) (n : Nat) (iv : Value) (wr : World) : Prop := ∃ k : Nat, k ≤ n ∧ iv = .int .i64 (k : Int) ∧ NoB p F k ∧ LawW w p wr
def TopRel2 (n : Nat) (iv : Value) : Prop := ∃ k : Nat, k ≤ n ∧ iv = .int .i64 (k : Int)
theorem top_role (id : Int) (p : Pri) (k : Nat) (h : Hd) : roleV id (own0 p) k h = if h.up then 1 else 0 := by
  unfold roleV own0
  cases h.up with
  | false => rfl
  | true =>
    rw [if_pos rfl, if_neg (by show ¬ ((k : Int) = -1); omega)]
    rfl
set_option maxRecDepth 20000 in
set_option maxHeartbeats 4000000 in
theorem bestTop_any (p : Pri) {w : World} {v : Value} {n : Nat} {F : Nat → Hd} (hA : HArg w v n F) : Calls Try.prog 8 #[.agg (PC p), v] w fun e w' => e = .returned (.bool true) ∧ Below w.heap.size w w' := by
  obtain ⟨a, c, rfl⟩ := hA.slice
  have HA := Lib.hid hA
  have HS := Lib.hid (LawW.start w p)
  have HH := Lib.hid (fun W => head_ret W)
  unfold PC at HS ⊢
  rcases Nat.lt_or_ge 30 n with g30 | g30
  · have hd : decide ((30 : Int) < (n : Int)) = true := decide_eq_true (by omega)
    clear hA
    go_enter Try.func8, Try.ntmps8
    go_wp2_with (go_at_call 17; (with_reducible refine (HH.out _).mono ?_); rintro e w1 ⟨rfl, hb⟩)
    go_ret
    exact ⟨rfl, bTr (bAl (bRef w) _) hb⟩
  have hd30 : decide ((30 : Int) < (n : Int)) = false := decide_eq_false (by omega)
  have HN := Lib.hid g30
  have HCh := Lib.hid (fun W (hb : Below w.heap.size w W) => Choose_any p (hA.below hb) (Nat.le_trans g30 (by decide)))
  unfold PC Chosen at HCh
  clear hA g30
  go_enter Try.func8, Try.ntmps8
  go_wp2_with (go_at_call 17; (with_reducible refine (HH.out _).mono ?_); rintro e w1 ⟨rfl, hb⟩; have HS1 := Lib.hid (HS.out.below hb); clear hb)
  go_loopw [18] (fun iv wr => TopRel w p F n iv wr) (fun iv _ => n - (intOf iv).toNat)
  case atStart => exact ⟨0, by omega, rfl, fun j hj => by omega, HS1.out⟩
  case round =>
    clear HS HS1 HH hd30
    obtain ⟨k, hk, rfl, hno, hs⟩ := hrel
    have HS := Lib.hid hs
    have HNo := Lib.hid hno
    clear hs hno
    have hn30 := HN.out
    rcases Nat.lt_or_ge k n with g | g
    · have hd : decide ((k : Int) < (n : Int)) = true := decide_eq_true (by omega)
      obtain ⟨ba, o, rfl, hlt, hall⟩ := HA.out.at (by omega)
      have HR := Lib.hid (fun W (hb : Below w.heap.size w W) => range_below (hall k g) hb hlt)
      clear hall
      have HNew : Hid (¬ (F k).v.r.cmp p < 0 → NoB p F (k + 1)) := Lib.hid (fun h j hj => by
        rcases Nat.lt_or_eq_of_le (Nat.lt_succ_iff.1 hj) with e | rfl
        · exact HNo.out j e
        · exact h)
      generalize F k = h at *
      obtain ⟨up, ok, v⟩ := h
      have HPc := Lib.hid (fun W => pcmp_any v.r p W)
      unfold PC at HPc
      have HNw : Hid (¬ v.r.cmp p < 0 → NoB p F (k + 1)) := HNew
      clear HNew
      generalize v.r.cmp p = z at *
      rw [show HC ⟨up, ok, v⟩ = #[.bool up, .bool ok, .int .i64 v.r.one, .int .i64 v.r.cls, .int .i64 v.r.two, .int .i64 v.r.id, .int .i64 v.steps, .int .i64 v.from_, .int .i64 v.port, .int .i64 v.at_] from rfl] at HR
      have hwo := (HS.out.below (bAl (bRef wr) (.cells #[.bool up, .bool ok, .int .i64 v.r.one, .int .i64 v.r.cls, .int .i64 v.r.two, .int .i64 v.r.id, .int .i64 v.steps, .int .i64 v.from_, .int .i64 v.port, .int .i64 v.at_] 37))).own
      have HW := Lib.hid hwo
      clear hwo
      by_cases hz : z < 0
      · go_wp2_with (first
          | ((with_reducible refine at_loadH ?_); refine wpList_loadW rfl _ _ rfl _ _ rfl #[.bool up, .bool ok, .int .i64 v.r.one, .int .i64 v.r.cls, .int .i64 v.r.two, .int .i64 v.r.id, .int .i64 v.steps, .int .i64 v.from_, .int .i64 v.port, .int .i64 v.at_] _ (HR.out _ HS.out.bel) Try.underlying37 rfl (by kernel_rfl) ?_)
          | ((with_reducible refine at_loadP ?_); refine wpList_loadW rfl _ _ rfl _ _ rfl (#[.int .i64 p.one, .int .i64 p.cls, .int .i64 p.two, .int .i64 p.id]) _ (range_whole HW.out) Try.underlying23 rfl (by kernel_rfl) ?_)
          | (go_at_call 13; (with_reducible refine (HPc.out _).mono ?_); rintro e w2 ⟨rfl, hb⟩; have HB := Lib.hid hb; clear hb))
        go_ret
        exact ⟨rfl, bTr (bAl HS.out.bel _) HB.out⟩
      · have HZ := Lib.hid (HNw.out hz)
        go_wp2_with (first
          | ((with_reducible refine at_loadH ?_); refine wpList_loadW rfl _ _ rfl _ _ rfl #[.bool up, .bool ok, .int .i64 v.r.one, .int .i64 v.r.cls, .int .i64 v.r.two, .int .i64 v.r.id, .int .i64 v.steps, .int .i64 v.from_, .int .i64 v.port, .int .i64 v.at_] _ (HR.out _ HS.out.bel) Try.underlying37 rfl (by kernel_rfl) ?_)
          | ((with_reducible refine at_loadP ?_); refine wpList_loadW rfl _ _ rfl _ _ rfl (#[.int .i64 p.one, .int .i64 p.cls, .int .i64 p.two, .int .i64 p.id]) _ (range_whole HW.out) Try.underlying23 rfl (by kernel_rfl) ?_)
          | (go_at_call 13; (with_reducible refine (HPc.out _).mono ?_); rintro e w2 ⟨rfl, hb⟩; have HS2 := Lib.hid ((HS.out.below (bAl (bRef wr) (.cells #[.bool up, .bool ok, .int .i64 v.r.one, .int .i64 v.r.cls, .int .i64 v.r.two, .int .i64 v.r.id, .int .i64 v.steps, .int .i64 v.from_, .int .i64 v.port, .int .i64 v.at_] 37))).below hb); clear hb))
        go_roundw
        case rel => exact ⟨k + 1, by omega, by go_num, HZ.out, HS2.out⟩
        case measure => simp [intOf]; omega
    · obtain rfl : k = n := by omega
      have hd : decide ((k : Int) < (k : Int)) = false := decide_eq_false (by omega)
      have hch := chs_none p F k (fun j hj => by
        have := HNo.out j hj
        unfold Hd.good
        rw [decide_eq_false this, Bool.and_false])
      have HRl : Hid (∀ i, i < k → (IC (rolesL p.id (own0 p) F k))[i]? = some (.int .i64 (if (F i).up then 1 else 0))) := Lib.hid (fun i hi => by rw [rolesL_at _ _ _ _ _ hi, top_role])
      have hll := rolesL_len p.id (own0 p) F k
      rw [hch, hll] at HCh
      clear hch hll HNo
      generalize rolesL p.id (own0 p) F k = l at *
      have heq := fun W => run_neP p.one p.cls p.two p.id p.one p.cls p.two p.id W true (by simp)
      simp only [Bool.not_true] at heq
      have hne : ((k : Int) != (k : Int)) = false := by simp
      unfold own0 VC at HCh
      go_upto_region 12 with (first
        | ((with_reducible refine at_loadP ?_); refine wpList_loadW rfl _ _ rfl _ _ rfl (#[.int .i64 p.one, .int .i64 p.cls, .int .i64 p.two, .int .i64 p.id]) _ (range_whole HS.out.own) Try.underlying23 rfl (by kernel_rfl) ?_)
        | (go_at_call 18; (with_reducible refine (HCh.out _ HS.out.bel).mono ?_); rintro e w2 ⟨g, rfl, hg, hrow, hb⟩; have HC2 := Lib.hid (LawC.start (c := own0 p) HS.out hb hrow); have HG := Lib.hid hg; clear hb hrow hg))
      rw [show VC (own0 p) = #[.int .i64 p.one, .int .i64 p.cls, .int .i64 p.two, .int .i64 p.id, .int .i64 0, .int .i64 p.id, .int .i64 0, .int .i64 (-1)] from rfl] at HC2
      generalize hW : w2.alloc (.cells #[.int .i64 p.one, .int .i64 p.cls, .int .i64 p.two, .int .i64 p.id, .int .i64 0, .int .i64 p.id, .int .i64 0, .int .i64 (-1)] 25) = W at *
      generalize w2.heap.size = b at *
      clear hW
      have b4 : W.cell? ⟨b, 4, none⟩ = some (.int .i64 0) := cell_of_row _ _ 4 _ _ _ HC2.out.chn
      have b7 : W.cell? ⟨b, 7, none⟩ = some (.int .i64 (-1)) := cell_of_row _ _ 7 _ _ _ HC2.out.chn
      go_wp2_with (first
        | ((with_reducible refine at_loadP ?_); refine wpList_loadW rfl _ _ rfl _ _ rfl (#[.int .i64 p.one, .int .i64 p.cls, .int .i64 p.two, .int .i64 p.id]) _ (range_whole HC2.out.law.own) Try.underlying23 rfl (by kernel_rfl) ?_)
        | ((with_reducible refine at_loadP ?_); refine wpList_loadW rfl _ _ rfl _ _ rfl (#[.int .i64 p.one, .int .i64 p.cls, .int .i64 p.two, .int .i64 p.id]) _ (range_of_row HC2.out.chn 0 _ (vhead (own0 p))) Try.underlying23 rfl (by kernel_rfl) ?_))
      go_loop [58] (fun iv => TopRel2 k iv) (fun iv => k - (intOf iv).toNat)
      case atStart => exact ⟨0, by omega, rfl⟩
      case round =>
        obtain ⟨i, hi, rfl⟩ := hrel
        rcases Nat.lt_or_ge i k with g1 | g1
        · have hd1 : decide ((i : Int) < (k : Int)) = true := decide_eq_true (by omega)
          have hir : IntKind.i64.wrap (i : Int) = (i : Int) := by rw [IntKind.wrap_i64]; omega
          obtain ⟨ba, o, rfl, hlt, hall⟩ := HA.out.at (by omega)
          have cu : W.cell? ⟨ba, o + i * 10, none⟩ = some (.bool (F i).up) := range_below (hall i g1) HC2.out.law.bel hlt 0 _ rfl
          have cr : W.cell? ⟨g, i, none⟩ = some (.int .i64 (if (F i).up then 1 else 0)) := (cell_of_row _ _ i _ _ _ HC2.out.row).trans (HRl.out i g1)
          clear hall
          cases hu : (F i).up with
          | true =>
            rw [hu] at cu cr
            rw [if_pos rfl] at cr
            go_wp2_with fail
            go_round
            case rel => exact ⟨i + 1, by omega, by go_num⟩
            case measure => simp [intOf]; omega
          | false =>
            rw [hu] at cu cr
            rw [if_neg (by decide)] at cr
            go_wp2_with fail
            go_round
            case rel => exact ⟨i + 1, by omega, by go_num⟩
            case measure => simp [intOf]; omega
        · obtain rfl : i = k := by omega
          go_wp2_with fail
          go_ret
          exact ⟨rfl, HC2.out.law.bel⟩


theorem bestTop_holds : Rows.BestTopSaid := bestTop_of (fun x0 x1 x2 x3 v n w _ _ _ _ h => by
  obtain ⟨F, hF⟩ := harg_of h
  exact bestTop_any ⟨x0, x1, x2, x3⟩ hF)

end Go.Proofs.Ytihddpoaemhlnaa
