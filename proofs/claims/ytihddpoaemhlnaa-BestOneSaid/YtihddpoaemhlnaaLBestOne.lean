/- For any clock and any list of what ports have heard BestOne answers true: one port at most is told the time, and one just if a better clock is known. No condition. -/
import Derived.Test.YtihddpoaemhlnaaFBestOne
import Derived.Test.YtihddpoaemhlnaaBtLaw
namespace Go.Proofs.Ytihddpoaemhlnaa
open Go.RowKit Go.Joins

def anyG (p : Pri) (F : Nat → Hd) : Nat → Bool
  | 0 => false
  | k + 1 => anyG p F k || (F k).good p
theorem anyG_succ (p : Pri) (F : Nat → Hd) (k : Nat) : anyG p F (k + 1) = (anyG p F k || (F k).good p) := rfl
theorem anyG_true (p : Pri) (F : Nat → Hd) : ∀ n j, j < n → (F j).good p = true → anyG p F n = true
  | n + 1, j, h, hg => by
    rw [anyG_succ]
    rcases Nat.lt_or_eq_of_le (Nat.lt_succ_iff.1 h) with e | rfl
    · rw [anyG_true p F n j e hg]; rfl
    · rw [hg, Bool.or_true]
theorem anyG_false (p : Pri) (F : Nat → Hd) : ∀ n, (∀ j, j < n → (F j).good p = false) → anyG p F n = false
  | 0, _ => rfl
  | n + 1, h => by rw [anyG_succ, anyG_false p F n (fun j hj => h j (by omega)), h n (by omega)]; rfl
/-- How many of the first k ports are told the time. -/
def slv (c : Vc) (k : Nat) : Int := if 0 ≤ c.at_ ∧ c.at_ < (k : Int) then 1 else 0
theorem slv_hit {c : Vc} {k : Nat} (h : (k : Int) = c.at_) : slv c k = 0 ∧ slv c (k + 1) = 1 := by
  unfold slv
  rw [← h, if_neg (by omega), if_pos (by omega)]
  exact ⟨rfl, rfl⟩
theorem slv_miss {c : Vc} {k : Nat} (h : ¬ (k : Int) = c.at_) : slv c (k + 1) = slv c k := by
  unfold slv
  by_cases e : 0 ≤ c.at_ ∧ c.at_ < (k : Int)
  · rw [if_pos e, if_pos (by omega)]
  · rw [if_neg e, if_neg (by omega)]
structure OneC (p : Pri) (F : Nat → Hd) (n : Nat) (c : Vc) : Prop where
  root : ∀ i, i < n → (F i).good p = true → c.r.cmp (F i).v.r ≤ 0
  at_ : (c = own0 p ∧ ∀ j, j < n → (F j).good p = false) ∨ (∃ j, j < n ∧ c = atV (F j).v j ∧ (F j).good p = true)
theorem oneC (p : Pri) (F : Nat → Hd) (n : Nat) : OneC p F n (chs p F n) := by
  rcases chs_inv p F n with ⟨h1, h2⟩ | ⟨⟨j, h1, h2, h3⟩, h4⟩
  · exact ⟨(fun i hi hg => by rw [h1 i hi] at hg; cases hg), .inl ⟨h2, h1⟩⟩
  · exact ⟨(fun i hi hg => vcmp_root (b := atV (F i).v i) (h4 i hi hg)), .inr ⟨j, h1, h3, h2⟩⟩
theorem OneC.hit {p : Pri} {F : Nat → Hd} {n : Nat} {c : Vc} (h : OneC p F n c) {k : Nat} (hk : (k : Int) = c.at_) : (F k).good p = true := by
  rcases h.at_ with ⟨rfl, _⟩ | ⟨j, _, rfl, hg⟩
  · exfalso
    have : (k : Int) = -1 := hk
    omega
  · have : (k : Int) = (j : Int) := hk
    obtain rfl : k = j := by omega
    exact hg
theorem OneC.ends {p : Pri} {F : Nat → Hd} {n : Nat} {c : Vc} (h : OneC p F n c) : ((slv c n = 0 ∧ anyG p F n = false ∧ c.at_ = -1) ∨ (slv c n = 1 ∧ anyG p F n = true ∧ 0 ≤ c.at_)) ∧ c.r.cmp p ≤ 0 := by
  rcases h.at_ with ⟨rfl, hn⟩ | ⟨j, hj, rfl, hg⟩
  · refine ⟨.inl ⟨?_, anyG_false p F n hn, rfl⟩, Int.le_of_eq (lx_self _)⟩
    unfold slv own0
    rw [if_neg (by simp)]
  · refine ⟨.inr ⟨?_, anyG_true p F n j hj hg, by show (0 : Int) ≤ (j : Int); omega⟩, ?_⟩
    · unfold slv atV
      rw [if_pos (by dsimp only; omega)]
    · unfold Hd.good at hg
      simp at hg
      exact Int.le_of_lt hg.2
theorem role_hit {id : Int} {c : Vc} {k : Nat} {h : Hd} (hu : h.up = true) (hk : (k : Int) = c.at_) : roleV id c k h = 2 := by
  unfold roleV
  rw [hu, if_pos rfl, if_pos hk]
theorem role_off {id : Int} {c : Vc} {k : Nat} {h : Hd} (hu : h.up = false) : roleV id c k h = 0 := by
  unfold roleV
  rw [hu, if_neg (by decide)]
theorem role_miss {id : Int} {c : Vc} {k : Nat} {h : Hd} (hu : h.up = true) (hk : ¬ (k : Int) = c.at_) : roleV id c k h = 1 ∨ roleV id c k h = 3 := by
  unfold roleV
  rw [hu, if_pos rfl, if_neg hk]
  split
  · exact .inr rfl
  · exact .inl rfl
def OneRel (w : World) (p : Pri) (F : Nat → Hd) (n : Nat) (c : Vc) (b g : Nat) (l : List Int) (sv bv iv : Value) (wr : World) : Prop := ∃ k : Nat, k ≤ n ∧ iv = .int .i64 (k : Int) ∧ sv = .int .i64 (slv c k) ∧ bv = .bool (anyG p F k) ∧ LawC w p c b g l wr
set_option maxRecDepth 20000 in
set_option maxHeartbeats 4000000 in
theorem bestOne_any (p : Pri) {w : World} {v : Value} {n : Nat} {F : Nat → Hd} (hA : HArg w v n F) : Calls Try.prog 5 #[.agg (PC p), v] w fun e w' => e = .returned (.bool true) ∧ Below w.heap.size w w' := by
  obtain ⟨a, c, rfl⟩ := hA.slice
  have HA := Lib.hid hA
  have HS := Lib.hid (LawW.start w p)
  have HH := Lib.hid (fun W => head_ret W)
  unfold PC at HS ⊢
  rcases Nat.lt_or_ge 40 n with g40 | g40
  · have hd : decide ((40 : Int) < (n : Int)) = true := decide_eq_true (by omega)
    clear hA
    go_enter Try.func5, Try.ntmps5
    go_wp2_with (go_at_call 17; (with_reducible refine (HH.out _).mono ?_); rintro e w1 ⟨rfl, hb⟩)
    go_ret
    exact ⟨rfl, bTr (bAl (bRef w) _) hb⟩
  have hd40 : decide ((40 : Int) < (n : Int)) = false := decide_eq_false (by omega)
  have HN := Lib.hid g40
  have HCh := Lib.hid (fun W (hb : Below w.heap.size w W) => Choose_any p (hA.below hb) (Nat.le_trans g40 (by decide)))
  have HO := Lib.hid (oneC p F n)
  have HRl : Hid (∀ i, i < n → (IC (rolesL p.id (chs p F n) F n))[i]? = some (.int .i64 (roleV p.id (chs p F n) i (F i)))) := Lib.hid (fun i hi => by rw [rolesL_at _ _ _ _ _ hi])
  have hll := rolesL_len p.id (chs p F n) F n
  unfold PC Chosen at HCh
  rw [hll] at HCh
  generalize rolesL p.id (chs p F n) F n = l at *
  generalize chs p F n = cc at *
  clear hA g40 hll
  have hne : ((n : Int) != (n : Int)) = false := by simp
  unfold VC at HCh
  go_enter Try.func5, Try.ntmps5
  go_upto_region 6 with (first
    | (go_at_call 17; (with_reducible refine (HH.out _).mono ?_); rintro e w1 ⟨rfl, hb⟩; have HS1 := Lib.hid (HS.out.below hb); clear hb)
    | ((with_reducible refine at_loadP ?_); refine wpList_loadW rfl _ _ rfl _ _ rfl (#[.int .i64 p.one, .int .i64 p.cls, .int .i64 p.two, .int .i64 p.id]) _ (range_whole HS1.out.own) Try.underlying23 rfl (by kernel_rfl) ?_)
    | (go_at_call 18; (with_reducible refine (HCh.out _ HS1.out.bel).mono ?_); rintro e w2 ⟨g, rfl, hg, hrow, hb⟩; have HC2 := Lib.hid (LawC.start (c := cc) HS1.out hb hrow); clear hb hrow hg))
  rw [show VC cc = #[.int .i64 cc.r.one, .int .i64 cc.r.cls, .int .i64 cc.r.two, .int .i64 cc.r.id, .int .i64 cc.steps, .int .i64 cc.from_, .int .i64 cc.port, .int .i64 cc.at_] from rfl] at HC2
  generalize hW : w2.alloc (.cells #[.int .i64 cc.r.one, .int .i64 cc.r.cls, .int .i64 cc.r.two, .int .i64 cc.r.id, .int .i64 cc.steps, .int .i64 cc.from_, .int .i64 cc.port, .int .i64 cc.at_] 25) = W at *
  generalize w2.heap.size = b at *
  clear hW HS HS1 HH HCh hd40
  go_wp2_with fail
  go_loopw [7, 8, 30] (fun sv bv iv wr => OneRel w p F n cc b g l sv bv iv wr) (fun _ _ iv _ => n - (intOf iv).toNat)
  case atStart => exact ⟨0, by omega, rfl, by unfold slv; rw [if_neg (by omega)], rfl, HC2.out⟩
  case round =>
    clear HC2
    obtain ⟨k, hk, rfl, rfl, rfl, hs⟩ := hrel
    have HS := Lib.hid hs
    clear hs
    have hn40 := HN.out
    rcases Nat.lt_or_ge k n with g1 | g1
    · have hd : decide ((k : Int) < (n : Int)) = true := decide_eq_true (by omega)
      obtain ⟨ba, o, rfl, hlt, hall⟩ := HA.out.at (by omega)
      have HR := Lib.hid (range_below (hall k g1) HS.out.law.bel hlt)
      have cr : wr.cell? ⟨g, k, none⟩ = some (.int .i64 (roleV p.id cc k (F k))) := (cell_of_row _ _ k _ _ _ HS.out.row).trans (HRl.out k g1)
      have hir : IntKind.i64.wrap (k : Int) = (k : Int) := by rw [IntKind.wrap_i64]; omega
      have HG := Lib.hid (anyG_succ p F k)
      have HRt := Lib.hid (HO.out.root k g1)
      have HHit := Lib.hid (fun e => HO.out.hit (k := k) e)
      have HRo := Lib.hid (fun hu e => role_hit (id := p.id) (c := cc) (k := k) (h := F k) hu e)
      have HRn := Lib.hid (fun hu => role_off (id := p.id) (c := cc) (k := k) (h := F k) hu)
      have HRm := Lib.hid (fun hu e => role_miss (id := p.id) (c := cc) (k := k) (h := F k) hu e)
      clear hall
      generalize roleV p.id cc k (F k) = r at *
      generalize F k = h at *
      obtain ⟨up, ok, v⟩ := h
      have HPc := Lib.hid (fun W => pcmp_any v.r p W)
      have HPd := Lib.hid (fun W => pcmp_any cc.r v.r W)
      have HGd : Hid (Hd.good p ⟨up, ok, v⟩ = ((up && ok) && decide (v.r.cmp p < 0))) := Lib.hid rfl
      have HRt2 : Hid (Hd.good p ⟨up, ok, v⟩ = true → cc.r.cmp v.r ≤ 0) := HRt
      clear HRt
      generalize Hd.good p ⟨up, ok, v⟩ = gd at *
      unfold PC at HPc HPd
      generalize v.r.cmp p = z at *
      generalize cc.r.cmp v.r = y at *
      rw [show HC ⟨up, ok, v⟩ = #[.bool up, .bool ok, .int .i64 v.r.one, .int .i64 v.r.cls, .int .i64 v.r.two, .int .i64 v.r.id, .int .i64 v.steps, .int .i64 v.from_, .int .i64 v.port, .int .i64 v.at_] from rfl] at HR
      have HW := Lib.hid ((HS.out.below (bAl (bRef wr) (.cells #[.bool up, .bool ok, .int .i64 v.r.one, .int .i64 v.r.cls, .int .i64 v.r.two, .int .i64 v.r.id, .int .i64 v.steps, .int .i64 v.from_, .int .i64 v.port, .int .i64 v.at_] 37))))
      have hsl : slv cc k = 0 ∨ slv cc k = 1 := by unfold slv; split <;> simp
      have HSl := Lib.hid hsl
      have HS1 := Lib.hid (fun e => slv_hit (c := cc) (k := k) e)
      have HS2 := Lib.hid (fun e => slv_miss (c := cc) (k := k) e)
      generalize hq : slv cc k = q at *
      clear hq hsl
      cases up with
      | false =>
        obtain rfl : r = 0 := HRn.out rfl
        have hna : ¬ (k : Int) = cc.at_ := fun e => by have := HHit.out e; rw [HGd.out] at this; cases this
        have H2 := Lib.hid (HS2.out hna)
        have H3 : Hid (anyG p F (k + 1) = anyG p F k) := Lib.hid (by rw [HG.out, HGd.out]; simp)
        clear hna
        go_wp2_with ((with_reducible refine at_loadH ?_); refine wpList_loadW rfl _ _ rfl _ _ rfl #[.bool false, .bool ok, .int .i64 v.r.one, .int .i64 v.r.cls, .int .i64 v.r.two, .int .i64 v.r.id, .int .i64 v.steps, .int .i64 v.from_, .int .i64 v.port, .int .i64 v.at_] _ HR.out Try.underlying37 rfl (by kernel_rfl) ?_)
        go_roundw
        case rel => exact ⟨k + 1, by omega, by go_num, by rw [H2.out], by rw [H3.out], HW.out⟩
        case measure => simp [intOf]; omega
      | true =>
      by_cases hna : (k : Int) = cc.at_
      · obtain rfl : r = 2 := HRo.out rfl hna
        obtain rfl : gd = true := HHit.out hna
        obtain ⟨rfl, hq1⟩ := HS1.out hna
        obtain rfl : ok = true := by have := HGd.out; cases ok; cases this; rfl
        have hz : z < 0 := by have := HGd.out; simpa using this.symm
        have hy := HRt2.out rfl
        have H2 := Lib.hid hq1
        have H3 : Hid (anyG p F (k + 1) = true) := Lib.hid (by rw [HG.out, Bool.or_true])
        clear hna hq1
        go_wp2_with (first
          | ((with_reducible refine at_loadH ?_); refine wpList_loadW rfl _ _ rfl _ _ rfl #[.bool true, .bool true, .int .i64 v.r.one, .int .i64 v.r.cls, .int .i64 v.r.two, .int .i64 v.r.id, .int .i64 v.steps, .int .i64 v.from_, .int .i64 v.port, .int .i64 v.at_] _ HR.out Try.underlying37 rfl (by kernel_rfl) ?_)
          | ((with_reducible refine at_loadP ?_); refine wpList_loadW rfl _ _ rfl _ _ rfl (#[.int .i64 p.one, .int .i64 p.cls, .int .i64 p.two, .int .i64 p.id]) _ (range_whole HW.out.law.own) Try.underlying23 rfl (by kernel_rfl) ?_)
          | ((with_reducible refine at_loadP ?_); refine wpList_loadW rfl _ _ rfl _ _ rfl (#[.int .i64 cc.r.one, .int .i64 cc.r.cls, .int .i64 cc.r.two, .int .i64 cc.r.id]) _ (range_of_row HW2.out.chn 0 _ (vhead cc)) Try.underlying23 rfl (by kernel_rfl) ?_)
          | ((with_reducible refine at_loadP ?_); refine wpList_loadW rfl _ _ rfl _ _ rfl (#[.int .i64 v.r.one, .int .i64 v.r.cls, .int .i64 v.r.two, .int .i64 v.r.id]) _ (range_of_row HX2.out 2 _ (hhead true true v)) Try.underlying23 rfl (by kernel_rfl) ?_)
          | (go_at_call 13; (with_reducible refine (HPc.out _).mono ?_); rintro e w2 ⟨rfl, hb⟩; have HW2 := Lib.hid (HW.out.below hb); have HX2 := Lib.hid ((hb.block _ (by simp)).trans (heap_alloc_new wr (.cells #[.bool true, .bool true, .int .i64 v.r.one, .int .i64 v.r.cls, .int .i64 v.r.two, .int .i64 v.r.id, .int .i64 v.steps, .int .i64 v.from_, .int .i64 v.port, .int .i64 v.at_] 37))); clear hb)
          | (go_at_call 13; (with_reducible refine (HPd.out _).mono ?_); rintro e w3 ⟨rfl, hb⟩; have HW3 := Lib.hid (HW2.out.below hb); clear hb))
        go_roundw
        case rel => exact ⟨k + 1, by omega, by go_num, by first | rw [H2.out] | (rw [H2.out]; rfl), by rw [H3.out], HW3.out⟩
        case measure => simp [intOf]; omega
      · have hq1 := HS2.out hna
        have hr := HRm.out rfl hna
        have r0 : 0 ≤ r := by omega
        have r3 : r ≤ 3 := by omega
        have r2 : (r == 2) = false := by rw [beq_eq_false_iff_ne]; omega
        have r0' : (r == 0) = false := by rw [beq_eq_false_iff_ne]; omega
        have H2 := Lib.hid hq1
        clear hr hq1 hna
        cases ok with
        | false =>
          have H3 : Hid (anyG p F (k + 1) = anyG p F k) := Lib.hid (by rw [HG.out, HGd.out]; simp)
          go_wp2_with (first
            | ((with_reducible refine at_loadH ?_); refine wpList_loadW rfl _ _ rfl _ _ rfl #[.bool true, .bool false, .int .i64 v.r.one, .int .i64 v.r.cls, .int .i64 v.r.two, .int .i64 v.r.id, .int .i64 v.steps, .int .i64 v.from_, .int .i64 v.port, .int .i64 v.at_] _ HR.out Try.underlying37 rfl (by kernel_rfl) ?_))
          go_roundw
          case rel => exact ⟨k + 1, by omega, by go_num, by first | rw [H2.out] | (rw [H2.out]; rfl), by rw [H3.out], HW.out⟩
          case measure => simp [intOf]; omega
        | true =>
          by_cases hz : z < 0
          · have H3 : Hid (anyG p F (k + 1) = true) := Lib.hid (by rw [HG.out, HGd.out]; simp [hz])
            have hy := HRt2.out (by rw [HGd.out]; simp [hz])
            go_wp2_with (first
              | ((with_reducible refine at_loadH ?_); refine wpList_loadW rfl _ _ rfl _ _ rfl #[.bool true, .bool true, .int .i64 v.r.one, .int .i64 v.r.cls, .int .i64 v.r.two, .int .i64 v.r.id, .int .i64 v.steps, .int .i64 v.from_, .int .i64 v.port, .int .i64 v.at_] _ HR.out Try.underlying37 rfl (by kernel_rfl) ?_)
              | ((with_reducible refine at_loadP ?_); refine wpList_loadW rfl _ _ rfl _ _ rfl (#[.int .i64 p.one, .int .i64 p.cls, .int .i64 p.two, .int .i64 p.id]) _ (range_whole HW.out.law.own) Try.underlying23 rfl (by kernel_rfl) ?_)
              | ((with_reducible refine at_loadP ?_); refine wpList_loadW rfl _ _ rfl _ _ rfl (#[.int .i64 cc.r.one, .int .i64 cc.r.cls, .int .i64 cc.r.two, .int .i64 cc.r.id]) _ (range_of_row HW2.out.chn 0 _ (vhead cc)) Try.underlying23 rfl (by kernel_rfl) ?_)
              | ((with_reducible refine at_loadP ?_); refine wpList_loadW rfl _ _ rfl _ _ rfl (#[.int .i64 v.r.one, .int .i64 v.r.cls, .int .i64 v.r.two, .int .i64 v.r.id]) _ (range_of_row HX2.out 2 _ (hhead true true v)) Try.underlying23 rfl (by kernel_rfl) ?_)
              | (go_at_call 13; (with_reducible refine (HPc.out _).mono ?_); rintro e w2 ⟨rfl, hb⟩; have HW2 := Lib.hid (HW.out.below hb); have HX2 := Lib.hid ((hb.block _ (by simp)).trans (heap_alloc_new wr (.cells #[.bool true, .bool true, .int .i64 v.r.one, .int .i64 v.r.cls, .int .i64 v.r.two, .int .i64 v.r.id, .int .i64 v.steps, .int .i64 v.from_, .int .i64 v.port, .int .i64 v.at_] 37))); clear hb)
              | (go_at_call 13; (with_reducible refine (HPd.out _).mono ?_); rintro e w3 ⟨rfl, hb⟩; have HW3 := Lib.hid (HW2.out.below hb); clear hb))
            go_roundw
            case rel => exact ⟨k + 1, by omega, by go_num, by first | rw [H2.out] | (rw [H2.out]; rfl), by rw [H3.out], HW3.out⟩
            case measure => simp [intOf]; omega
          · have H3 : Hid (anyG p F (k + 1) = anyG p F k) := Lib.hid (by rw [HG.out, HGd.out]; simp [hz])
            go_wp2_with (first
              | ((with_reducible refine at_loadH ?_); refine wpList_loadW rfl _ _ rfl _ _ rfl #[.bool true, .bool true, .int .i64 v.r.one, .int .i64 v.r.cls, .int .i64 v.r.two, .int .i64 v.r.id, .int .i64 v.steps, .int .i64 v.from_, .int .i64 v.port, .int .i64 v.at_] _ HR.out Try.underlying37 rfl (by kernel_rfl) ?_)
              | ((with_reducible refine at_loadP ?_); refine wpList_loadW rfl _ _ rfl _ _ rfl (#[.int .i64 p.one, .int .i64 p.cls, .int .i64 p.two, .int .i64 p.id]) _ (range_whole HW.out.law.own) Try.underlying23 rfl (by kernel_rfl) ?_)
              | (go_at_call 13; (with_reducible refine (HPc.out _).mono ?_); rintro e w2 ⟨rfl, hb⟩; have HW2 := Lib.hid (HW.out.below hb); have HX2 := Lib.hid ((hb.block _ (by simp)).trans (heap_alloc_new wr (.cells #[.bool true, .bool true, .int .i64 v.r.one, .int .i64 v.r.cls, .int .i64 v.r.two, .int .i64 v.r.id, .int .i64 v.steps, .int .i64 v.from_, .int .i64 v.port, .int .i64 v.at_] 37))); clear hb))
            go_roundw
            case rel => exact ⟨k + 1, by omega, by go_num, by first | rw [H2.out] | (rw [H2.out]; rfl), by rw [H3.out], HW2.out⟩
            case measure => simp [intOf]; omega
    · obtain rfl : k = n := by omega
      have hd : decide ((k : Int) < (k : Int)) = false := decide_eq_false (by omega)
      obtain ⟨he, hle⟩ := HO.out.ends
      have HPe := Lib.hid (fun W => pcmp_any cc.r p W)
      unfold PC at HPe
      generalize cc.r.cmp p = y at *
      have b7 : wr.cell? ⟨b, 7, none⟩ = some (.int .i64 cc.at_) := cell_of_row _ _ 7 _ _ _ HS.out.chn
      generalize slv cc k = q at *
      generalize anyG p F k = bt at *
      rcases he with ⟨rfl, rfl, ha⟩ | ⟨rfl, rfl, ha⟩
      · rw [ha] at b7
        have HY := Lib.hid hle
        go_wp2_with (first
          | ((with_reducible refine at_loadP ?_); refine wpList_loadW rfl _ _ rfl _ _ rfl (#[.int .i64 cc.r.one, .int .i64 cc.r.cls, .int .i64 cc.r.two, .int .i64 cc.r.id]) _ (range_of_row HS.out.chn 0 _ (vhead cc)) Try.underlying23 rfl (by kernel_rfl) ?_)
          | ((with_reducible refine at_loadP ?_); refine wpList_loadW rfl _ _ rfl _ _ rfl (#[.int .i64 p.one, .int .i64 p.cls, .int .i64 p.two, .int .i64 p.id]) _ (range_whole HS.out.law.own) Try.underlying23 rfl (by kernel_rfl) ?_)
          | (go_at_call 13; (with_reducible refine (HPe.out _).mono ?_); rintro e w2 ⟨rfl, hb⟩; have HW2 := Lib.hid (HS.out.below hb); clear hb))
        go_ret
        exact ⟨rfl, HW2.out.law.bel⟩
      · have HY := Lib.hid hle
        go_wp2_with (first
          | ((with_reducible refine at_loadP ?_); refine wpList_loadW rfl _ _ rfl _ _ rfl (#[.int .i64 cc.r.one, .int .i64 cc.r.cls, .int .i64 cc.r.two, .int .i64 cc.r.id]) _ (range_of_row HS.out.chn 0 _ (vhead cc)) Try.underlying23 rfl (by kernel_rfl) ?_)
          | ((with_reducible refine at_loadP ?_); refine wpList_loadW rfl _ _ rfl _ _ rfl (#[.int .i64 p.one, .int .i64 p.cls, .int .i64 p.two, .int .i64 p.id]) _ (range_whole HS.out.law.own) Try.underlying23 rfl (by kernel_rfl) ?_)
          | (go_at_call 13; (with_reducible refine (HPe.out _).mono ?_); rintro e w2 ⟨rfl, hb⟩; have HW2 := Lib.hid (HS.out.below hb); clear hb))
        go_ret
        exact ⟨rfl, HW2.out.law.bel⟩


theorem bestOne_holds : Rows.BestOneSaid := bestOne_of (fun x0 x1 x2 x3 v n w _ _ _ _ h => by
  obtain ⟨F, hF⟩ := harg_of h
  exact bestOne_any ⟨x0, x1, x2, x3⟩ hF)

end Go.Proofs.Ytihddpoaemhlnaa
