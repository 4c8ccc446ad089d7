/- OscTells: the law's walk. -/
import Derived.Test.YtffjbngelapmmaaFOscTells
import Derived.Test.YtffjbngelapmmaaOsNew
import Derived.Test.YtffjbngelapmmaaOsRNew
import Derived.Test.YtffjbngelapmmaaOsRMark
import Derived.Test.YtffjbngelapmmaaOsPlainW
import Derived.Test.YtffjbngelapmmaaOsMine
namespace Go.Proofs.Ytffjbngelapmmaa
open Go.RowKit Go.Joins

set_option maxRecDepth 20000 in
set_option maxHeartbeats 1000000 in
theorem tells_many (p q : Option Addr) (n c m d : Nat) (s g : Int) (w : World) (h : 100 < n ∨ 40 < m) :
    Calls Try.prog 3 #[.int .i64 s, .int .i64 g, .slice p n c, .slice q m d] w fun e w' => e = .returned (.bool true) ∧ Below w.heap.size w w' := by
  have HH := head_ret
  rcases Nat.lt_or_ge 100 n with h1 | h1
  · have d1 : decide ((100 : Int) < (n : Int)) = true := decide_eq_true (by omega)
    clear h h1
    go_enter Try.func3, Try.ntmps3
    go_wp2_with (first
      | (go_at_call 8; (with_reducible refine (HH.go _).mono ?_); rintro e w1 ⟨rfl, hb⟩; have HB := Lib.hid hb; clear hb))
    go_ret
    exact ⟨rfl, HB.out⟩
  · have d1 : decide ((100 : Int) < (n : Int)) = false := decide_eq_false (by omega)
    have d2 : decide ((40 : Int) < (m : Int)) = true := decide_eq_true (by omega)
    clear h h1
    go_enter Try.func3, Try.ntmps3
    go_wp2_with (first
      | (go_at_call 8; (with_reducible refine (HH.go _).mono ?_); rintro e w1 ⟨rfl, hb⟩; have HB := Lib.hid hb; clear hb))
    go_ret
    exact ⟨rfl, HB.out⟩

theorem clk_set {B b i : Nat} {W : World} {v x : Value} {s g : Int} {ts : List (Int × Int)} (h : Clk B W v s g ts) (hb : b < B) : Clk B (W.setCell ⟨b, i, none⟩ x) v s g ts := by
  obtain ⟨k, l, c, rfl, h1, h2, h3, h4, h5, h6, h7⟩ := h
  have e : ∀ k j, B ≤ k → (W.setCell ⟨b, i, none⟩ x).cell? ⟨k, j, none⟩ = W.cell? ⟨k, j, none⟩ := fun k j hk => World.cell?_setCell_far _ _ _ _ (by show b ≠ k; omega)
  exact ⟨k, l, c, rfl, h1, h2, by simpa using h3, by simpa using h4, (e _ _ h1).trans h5, (e _ _ h1).trans h6, fun j hj => ⟨(e _ _ h2).trans (h7 j hj).1, (e _ _ h2).trans (h7 j hj).2.1, (e _ _ h2).trans (h7 j hj).2.2⟩⟩
theorem z_lt {W : World} {g : Nat} {o : Obj} (h : W.heap[g]? = some o) : g < W.heap.size := by
  rcases Nat.lt_or_ge g W.heap.size with hl | hl
  · exact hl
  · rw [Array.getElem?_eq_none hl] at h; cases h
theorem z_old {W W' : World} {g : Nat} {o : Obj} (h : W.heap[g]? = some o) (hb : Below W.heap.size W W') : W'.heap[g]? = some o := (hb.block g (z_lt h)).trans h
theorem lg_at {w : World} {q : Option Addr} {m d j : Nat} {xs : List Int} (h : LArg w (.slice q m d) xs) (hm : xs.length = m) (hj : j < m) : ∃ b o, q = some ⟨b, o, none⟩ ∧ w.cell? ⟨b, o + j, none⟩ = some (.int .i64 (xs.getD j 0)) := by
  rcases h.2 with ⟨e, _⟩ | ⟨h0, b, o, c, e, _, hr⟩
  · rw [e] at hm; simp at hm; omega
  · injection e with e1 e2 e3
    exact ⟨b, o, e1, (hr h0).2 j (by omega)⟩
def TmRel (w : World) (B b1 bx m : Nat) (s g : Int) (ts : List (Int × Int)) (va vr : Value) (kv : Value) (wr : World) : Prop :=
  ∃ j : Nat, j ≤ m ∧ kv = .int .i64 (j : Int) ∧ Clk B wr (.pointer (some ⟨b1, 0, none⟩)) s g ts ∧ RClk wr va vr ts ∧ (bx < wr.heap.size ∧ wr.cell? ⟨bx, 0, none⟩ = some (.int .i64 s) ∧ wr.cell? ⟨bx, 1, none⟩ = some (.int .i64 g) ∧ wr.cell? ⟨bx, 2, none⟩ = some va ∧ wr.cell? ⟨bx, 3, none⟩ = some vr) ∧ Below w.heap.size w wr
theorem rtell_at {va vr : Value} {s g : Int} {ts : List (Int × Int)} {w : World} (h : RClk w va vr ts) (hg : Good ts) (hs : Start s) (x : Int) (h0 : 0 ≤ x) (h1 : x ≤ 1099511627776) (y : Int) (hy : tell s ts x = y) :
    Calls Try.prog 16 #[.agg #[.int .i64 s, .int .i64 g, va, vr], .int .i64 x] w fun e w' => e = .returned (.int .i64 y) ∧ Below w.heap.size w w' := hy ▸ rtell_ok h hg hs x h0 h1
theorem rrate_at {va vr : Value} {s g : Int} {ts : List (Int × Int)} {w : World} (h : RClk w va vr ts) (hg : Good ts) (x : Int) (h0 : 0 ≤ x) (y : Int) (hy : y = tR ts (ix ts x)) :
    Calls Try.prog 18 #[.agg #[.int .i64 s, .int .i64 g, va, vr], .int .i64 x] w fun e w' => e = .returned (.int .i64 y) ∧ Below w.heap.size w w' := hy ▸ rrate_ok h hg x h0
def ZRel (w : World) (_B g1 cap n : Nat) (P : World → Prop) (kv : Value) (wr : World) : Prop :=
  ∃ k : Nat, k ≤ n ∧ kv = .int .i64 (k : Int) ∧ (∃ cur, wr.heap[g1]? = some (.cells cur 32 (0, 0)) ∧ cur.size = cap * 2) ∧ P wr ∧ Below w.heap.size w wr
theorem plain_at {v : Value} {s g : Int} {ts : List (Int × Int)} {w : World} (h : TArg w v ts) (hl : ts.length ≤ 1000) :
    Calls Try.prog 10 #[.int .i64 s, .int .i64 g, v] w fun e w' => ∃ pa na ca pr nr cr, e = .returned (.agg #[.int .i64 s, .int .i64 g, .slice pa na ca, .slice pr nr cr]) ∧ RClk w' (.slice pa na ca) (.slice pr nr cr) ts ∧ Below w.heap.size w w' :=
  (plain_any h hl).mono fun e w' hh => by
    obtain ⟨va, vr, rfl, hr, hb⟩ := hh
    obtain ⟨pa, ca, rfl⟩ := hr.1.slice
    obtain ⟨pr, cr, rfl⟩ := hr.2.slice
    exact ⟨_, _, _, _, _, _, rfl, hr, hb⟩
/-- The box in which the law keeps the reference's clock. -/
def Box (w : World) (b : Nat) (s g : Int) (va vr : Value) : Prop := b < w.heap.size ∧ w.cell? ⟨b, 0, none⟩ = some (.int .i64 s) ∧ w.cell? ⟨b, 1, none⟩ = some (.int .i64 g) ∧ w.cell? ⟨b, 2, none⟩ = some va ∧ w.cell? ⟨b, 3, none⟩ = some vr
theorem Box.below {w w' : World} {b : Nat} {s g : Int} {va vr : Value} (h : Box w b s g va vr) (hb : Below w.heap.size w w') : Box w' b s g va vr :=
  ⟨Nat.lt_of_lt_of_le h.1 hb.size, (hb.cell h.1).trans h.2.1, (hb.cell h.1).trans h.2.2.1, (hb.cell h.1).trans h.2.2.2.1, (hb.cell h.1).trans h.2.2.2.2⟩
theorem box_new (w : World) (s g : Int) (va vr : Value) : Box (w.alloc (.cells #[.int .i64 s, .int .i64 g, va, vr] 34)) w.heap.size s g va vr :=
  ⟨by simp, box4 w (.int .i64 s) (.int .i64 g) va vr⟩
theorem rchk_at {va vr : Value} {s g x : Int} {ts : List (Int × Int)} {w : World} (h : RClk w va vr ts) (hx : newE s g ts = x) :
    Calls Try.prog 11 #[.agg #[.int .i64 s, .int .i64 g, va, vr]] w fun e w' => e = .returned (.int .i64 x) ∧ Below w.heap.size w w' := hx ▸ rchk_any h
theorem z_cell {wr : World} {g1 cap k n : Nat} {cur : Array Value} (hg : wr.heap[g1]? = some (.cells cur 32 (0, 0))) (hs : cur.size = cap * 2) (hn : n ≤ cap) (hk : k < n) : (∃ z, wr.cell? ⟨g1, k * 2 + 1, none⟩ = some z) ∧ wr.frozen? ⟨g1, k * 2 + 1, none⟩ = false := by
  refine ⟨⟨cur[k * 2 + 1]'(by omega), ?_⟩, frozen_of_row wr _ _ _ _ hg⟩
  rw [cell_of_row _ _ _ _ _ _ hg, Array.getElem?_eq_getElem (by omega)]
theorem z_set {w wr : World} {g1 cap i : Nat} {cur : Array Value} (x : Value) (hg : wr.heap[g1]? = some (.cells cur 32 (0, 0))) (hs : cur.size = cap * 2) (hw : w.heap.size ≤ g1) (hb : Below w.heap.size w wr) :
    (∃ cur, (wr.setCell ⟨g1, i, none⟩ x).heap[g1]? = some (.cells cur 32 (0, 0)) ∧ cur.size = cap * 2) ∧ Below w.heap.size w (wr.setCell ⟨g1, i, none⟩ x) :=
  ⟨⟨_, heap_setCell_same wr _ i _ _ x hg, by simpa using hs⟩, hb.trans ⟨rfl, rfl, rfl, by simp, fun k hk => heap_setCell_other wr _ k x (by show k ≠ g1; omega)⟩⟩

set_option maxRecDepth 20000 in
set_option maxHeartbeats 4000000 in
theorem tells_some (p q : Option Addr) (n c m d : Nat) (s g : Int) (ts : List (Int × Int)) (xs : List Int) (w : World) (h : TArg w (.slice p n c) ts) (hx : LArg w (.slice q m d) xs) (hn : ts.length = n) (hm : xs.length = m) (h1 : n ≤ 100) (h2 : m ≤ 40) (he : newE s g ts = 0) :
    Calls Try.prog 3 #[.int .i64 s, .int .i64 g, .slice p n c, .slice q m d] w fun e w' => e = .returned (.bool true) ∧ Below w.heap.size w w' := by
  have HE := Lib.hid he
  have HH := head_ret
  have d1 : decide ((100 : Int) < (n : Int)) = false := decide_eq_false (by omega)
  have d2 : decide ((40 : Int) < (m : Int)) = false := decide_eq_false (by omega)
  have HT := Lib.hid h
  have HX := Lib.hid hx
  have HN := Lib.hid hn
  have HM := Lib.hid hm
  have HL : Hid (ts.length ≤ 1000) := Lib.hid (by omega)
  obtain ⟨hg, hgr1, hgr2, hst⟩ := newE_zero he
  have HG := Lib.hid hg
  have HS : Hid (Start s) := Lib.hid hst
  have HGR : Hid (1 ≤ g ∧ g ≤ 1000) := Lib.hid ⟨hgr1, hgr2⟩
  clear h hx hn hm he hg hgr1 hgr2 hst
  go_enter Try.func3, Try.ntmps3
  go_wp2_with (first
    | (go_at_call 8; (with_reducible refine (HH.go _).mono ?_); rintro e w1 ⟨rfl, hb⟩; have HB := Lib.hid hb; clear hb)
    | (at_builtin; refine wpList_mine rfl _ _ rfl w1 (.slice p n c) ts rfl rfl (HT.out.below HB.out) HL.out ?_; intro v1 w2 hm ht hb; obtain ⟨g1, cap1, cur1, rfl, hm⟩ := hm; rw [HN.out] at hm ht ⊢; have HMINE := Lib.hid hm; have HTM := Lib.hid ht; have HB2 := Lib.hid (bTr HB.out hb); clear hm ht hb)
    | (go_at_call 9; (with_reducible refine ((newRight HTM.out HE.out).out _ (bRef _)).mono ?_); rintro e w3 ⟨b1, rfl, hc, hb⟩; have HC := Lib.hid hc; have HB3 := Lib.hid hb; clear hc hb))
  have HB3' := Lib.hid (bTr HB2.out HB3.out)
  have HM0 : Hid (n ≤ cap1 ∧ w.heap.size ≤ g1 ∧ g1 < w2.heap.size) := Lib.hid ⟨HMINE.out.1, Nat.le_trans HB.out.size HMINE.out.2.1, z_lt HMINE.out.2.2.1⟩
  have HZ3 := Lib.hid (⟨_, z_old HMINE.out.2.2.1 HB3.out, HMINE.out.2.2.2⟩ : ∃ cur, w3.heap[g1]? = some (.cells cur 32 (0, 0)) ∧ cur.size = cap1 * 2)
  clear HB HB2 HB3 HMINE HTM
  go_loopw [49] (fun kv wr => ZRel w w2.heap.size g1 cap1 n (fun W => Clk w2.heap.size W (.pointer (some ⟨b1, 0, none⟩)) s g ts) kv wr) (fun kv _ => n - (intOf kv).toNat)
  case atStart => exact ⟨0, by omega, rfl, HZ3.out, HC.out, HB3'.out⟩
  case round =>
    clear HC HB3' HZ3
    obtain ⟨k, hk, rfl, ⟨cur, hcur, hcs⟩, hC, hb⟩ := hrel
    rcases Nat.lt_or_ge k n with hlt | hge
    · have hd : decide ((k : Int) < (n : Int)) = true := decide_eq_true (by omega)
      obtain ⟨⟨z, hz⟩, hzf⟩ := z_cell hcur hcs HM0.out.1 hlt
      have HZ := Lib.hid (z_set (i := k * 2 + 1) (.int .i64 0) hcur hcs HM0.out.2.1 hb)
      have HC := Lib.hid (clk_set (i := k * 2 + 1) (x := .int .i64 0) hC HM0.out.2.2)
      clear hcur hcs hC hb
      go_wp2_with fail
      go_roundw
      case rel => exact ⟨k + 1, by omega, by go_num, HZ.out.1, HC.out, HZ.out.2⟩
      case measure => simp [intOf]; omega
    · obtain rfl : k = n := by omega
      have hd : decide ((k : Int) < (k : Int)) = false := decide_eq_false (by omega)
      have HC := Lib.hid hC
      have HB := Lib.hid hb
      clear hcur hcs hC hb
      go_wp2_with (first
        | (go_at_call 10; (with_reducible refine (plain_at (HT.out.below HB.out) HL.out).mono ?_); rintro e w5 ⟨pa, na, ca, pr, nr, cr, rfl, hrc, hb⟩; have HRC := Lib.hid (hrc.below (bAl (bRef _) (.cells #[.int .i64 s, .int .i64 g, .slice pa na ca, .slice pr nr cr] 34))); replace HC := Lib.hid ((HC.out.below hb).below (bAl (bRef _) (.cells #[.int .i64 s, .int .i64 g, .slice pa na ca, .slice pr nr cr] 34))); replace HB := Lib.hid (bAl (bTr HB.out hb) (.cells #[.int .i64 s, .int .i64 g, .slice pa na ca, .slice pr nr cr] 34)); have HBOX := Lib.hid (box_new w5 s g (.slice pa na ca) (.slice pr nr cr)); obtain ⟨-, b0, b1', b2, b3⟩ := HBOX.out; clear hrc hb)
        | (go_at_call 11; (with_reducible refine (rchk_at HRC.out HE.out).mono ?_); rintro e w6 ⟨rfl, hb⟩; replace HBOX := Lib.hid (HBOX.out.below hb); replace HRC := Lib.hid (HRC.out.below hb); replace HC := Lib.hid (HC.out.below hb); replace HB := Lib.hid (bTr HB.out hb); clear hb))
      go_loopw [90] (fun kv wr => TmRel w w2.heap.size b1 w5.heap.size m s g ts (.slice pa na ca) (.slice pr nr cr) kv wr) (fun kv _ => m - (intOf kv).toNat)
      case atStart => exact ⟨0, by omega, rfl, HC.out, HRC.out, HBOX.out, HB.out⟩
      case round =>
        clear HC HRC HBOX HB b0 b1' b2 b3
        obtain ⟨j, hj, rfl, hC, hRC, hBX, hb⟩ := hrel
        have HC := Lib.hid hC
        have HRC := Lib.hid hRC
        have HBOX : Hid (Box wr w5.heap.size s g (.slice pa na ca) (.slice pr nr cr)) := Lib.hid hBX
        have HB := Lib.hid hb
        obtain ⟨-, b0, b1', b2, b3⟩ := hBX
        rcases Nat.lt_or_ge j m with hlt | hge
        · have hd : decide ((j : Int) < (m : Int)) = true := decide_eq_true (by omega)
          obtain ⟨bq, oq, rfl, hq⟩ := lg_at HX.out HM.out hlt
          obtain ⟨t, ht⟩ : ∃ t, xs.getD j 0 = t := ⟨_, rfl⟩
          have hqc := (hb.cell (block_of_cell hq)).trans hq
          rw [ht] at hqc
          clear hC hRC hb hq ht hd
          have hd : decide ((j : Int) < (m : Int)) = true := decide_eq_true (by omega)
          by_cases hbad : t < 0 ∨ 1099511627776 < t
          · have HT0 := Lib.hid hbad
            rcases Int.lt_or_le t 0 with hneg | hpos
            · have d3 : decide (t < 0) = true := decide_eq_true hneg
              clear hbad hneg
              go_wp2_with (first
                | (go_at_call 12; (with_reducible refine (at_bad HC.out HG.out t HT0.out).mono ?_); rintro e wa ⟨rfl, hb⟩; replace HC := Lib.hid (HC.out.below hb); replace HRC := Lib.hid (HRC.out.below hb); replace HBOX := Lib.hid (Box.below HBOX.out hb); replace HB := Lib.hid (bTr HB.out hb); clear hb; obtain ⟨-, b0, b1', b2, b3⟩ := HBOX.out)
                | (go_at_call 14; (with_reducible refine (mark_bad HC.out HG.out t HT0.out).mono ?_); rintro e wb ⟨rfl, hb⟩; replace HC := Lib.hid (HC.out.below hb); replace HRC := Lib.hid (HRC.out.below hb); replace HBOX := Lib.hid (Box.below HBOX.out hb); replace HB := Lib.hid (bTr HB.out hb); clear hb; obtain ⟨-, b0, b1', b2, b3⟩ := HBOX.out)
                | (go_at_call 15; (with_reducible refine (rate_bad HC.out HG.out t HT0.out).mono ?_); rintro e we ⟨rfl, hb⟩; replace HC := Lib.hid (HC.out.below hb); replace HRC := Lib.hid (HRC.out.below hb); replace HBOX := Lib.hid (Box.below HBOX.out hb); replace HB := Lib.hid (bTr HB.out hb); clear hb; obtain ⟨-, b0, b1', b2, b3⟩ := HBOX.out))
              go_roundw
              case rel => exact ⟨j + 1, by omega, by go_num, HC.out, HRC.out, HBOX.out, HB.out⟩
              case measure => simp [intOf]; omega
            · have d3 : decide (t < 0) = false := decide_eq_false (by omega)
              have d4 : decide (1099511627776 < t) = true := decide_eq_true (by omega)
              clear hbad hpos
              go_wp2_with (first
                | (go_at_call 12; (with_reducible refine (at_bad HC.out HG.out t HT0.out).mono ?_); rintro e wa ⟨rfl, hb⟩; replace HC := Lib.hid (HC.out.below hb); replace HRC := Lib.hid (HRC.out.below hb); replace HBOX := Lib.hid (Box.below HBOX.out hb); replace HB := Lib.hid (bTr HB.out hb); clear hb; obtain ⟨-, b0, b1', b2, b3⟩ := HBOX.out)
                | (go_at_call 14; (with_reducible refine (mark_bad HC.out HG.out t HT0.out).mono ?_); rintro e wb ⟨rfl, hb⟩; replace HC := Lib.hid (HC.out.below hb); replace HRC := Lib.hid (HRC.out.below hb); replace HBOX := Lib.hid (Box.below HBOX.out hb); replace HB := Lib.hid (bTr HB.out hb); clear hb; obtain ⟨-, b0, b1', b2, b3⟩ := HBOX.out)
                | (go_at_call 15; (with_reducible refine (rate_bad HC.out HG.out t HT0.out).mono ?_); rintro e we ⟨rfl, hb⟩; replace HC := Lib.hid (HC.out.below hb); replace HRC := Lib.hid (HRC.out.below hb); replace HBOX := Lib.hid (Box.below HBOX.out hb); replace HB := Lib.hid (bTr HB.out hb); clear hb; obtain ⟨-, b0, b1', b2, b3⟩ := HBOX.out))
              go_roundw
              case rel => exact ⟨j + 1, by omega, by go_num, HC.out, HRC.out, HBOX.out, HB.out⟩
              case measure => simp [intOf]; omega
          · have d3 : decide (t < 0) = false := decide_eq_false (by omega)
            have d4 : decide (1099511627776 < t) = false := decide_eq_false (by omega)
            have HT0 : Hid (0 ≤ t ∧ t ≤ 1099511627776) := Lib.hid ⟨by omega, by omega⟩
            obtain ⟨ty, hty⟩ : ∃ y, tell s ts t = y := ⟨_, rfl⟩
            obtain ⟨my, hmy⟩ : ∃ y, mark s g ts t = y := ⟨_, rfl⟩
            obtain ⟨ry, hry⟩ : ∃ y, y = tR ts (ix ts t) := ⟨_, rfl⟩
            have HTY := Lib.hid hty
            have HMY := Lib.hid hmy
            have HRY := Lib.hid hry
            clear hbad hty hmy hry
            go_wp2_with (first
              | (go_at_call 12; (with_reducible refine (at_ok HC.out HG.out HS.out t HT0.out.1 HT0.out.2 ty HTY.out).mono ?_); rintro e wa ⟨rfl, hb⟩; replace HC := Lib.hid (HC.out.below hb); replace HRC := Lib.hid (HRC.out.below hb); replace HBOX := Lib.hid (Box.below HBOX.out hb); replace HB := Lib.hid (bTr HB.out hb); clear hb; obtain ⟨-, b0, b1', b2, b3⟩ := HBOX.out)
              | (go_at_call 14; (with_reducible refine (mark_ok HC.out HG.out HS.out HGR.out.1 HGR.out.2 t HT0.out.1 HT0.out.2 my HMY.out).mono ?_); rintro e wb ⟨rfl, hb⟩; replace HC := Lib.hid (HC.out.below hb); replace HRC := Lib.hid (HRC.out.below hb); replace HBOX := Lib.hid (Box.below HBOX.out hb); replace HB := Lib.hid (bTr HB.out hb); clear hb; obtain ⟨-, b0, b1', b2, b3⟩ := HBOX.out)
              | (go_at_call 15; (with_reducible refine (rate_ok HC.out HG.out t HT0.out.1 HT0.out.2 ry HRY.out).mono ?_); rintro e we ⟨rfl, hb⟩; replace HC := Lib.hid (HC.out.below hb); replace HRC := Lib.hid (HRC.out.below hb); replace HBOX := Lib.hid (Box.below HBOX.out hb); replace HB := Lib.hid (bTr HB.out hb); clear hb; obtain ⟨-, b0, b1', b2, b3⟩ := HBOX.out)
              | (go_at_call 16; (with_reducible refine (rtell_at HRC.out HG.out HS.out t HT0.out.1 HT0.out.2 ty HTY.out).mono ?_); rintro e wf ⟨rfl, hb⟩; replace HC := Lib.hid (HC.out.below hb); replace HRC := Lib.hid (HRC.out.below hb); replace HBOX := Lib.hid (Box.below HBOX.out hb); replace HB := Lib.hid (bTr HB.out hb); clear hb; obtain ⟨-, b0, b1', b2, b3⟩ := HBOX.out)
              | (go_at_call 17; (with_reducible refine (rmark_ok HRC.out HG.out HS.out HGR.out.1 HGR.out.2 t HT0.out.1 HT0.out.2 my HMY.out).mono ?_); rintro e wg ⟨rfl, hb⟩; replace HC := Lib.hid (HC.out.below hb); replace HRC := Lib.hid (HRC.out.below hb); replace HBOX := Lib.hid (Box.below HBOX.out hb); replace HB := Lib.hid (bTr HB.out hb); clear hb; obtain ⟨-, b0, b1', b2, b3⟩ := HBOX.out)
              | (go_at_call 18; (with_reducible refine (rrate_at HRC.out HG.out t HT0.out.1 ry HRY.out).mono ?_); rintro e wh ⟨rfl, hb⟩; replace HC := Lib.hid (HC.out.below hb); replace HRC := Lib.hid (HRC.out.below hb); replace HBOX := Lib.hid (Box.below HBOX.out hb); replace HB := Lib.hid (bTr HB.out hb); clear hb; obtain ⟨-, b0, b1', b2, b3⟩ := HBOX.out))
            go_roundw
            case rel => exact ⟨j + 1, by omega, by go_num, HC.out, HRC.out, HBOX.out, HB.out⟩
            case measure => simp [intOf]; omega
        · obtain rfl : j = m := by omega
          have hd : decide ((j : Int) < (j : Int)) = false := decide_eq_false (by omega)
          clear hC hRC hb
          go_wp2_with fail
          go_ret
          exact ⟨rfl, HB.out⟩


set_option maxRecDepth 20000 in
set_option maxHeartbeats 4000000 in
theorem tells_wrong (p q : Option Addr) (n c m d : Nat) (s g : Int) (ts : List (Int × Int)) (xs : List Int) (w : World) (h : TArg w (.slice p n c) ts) (hx : LArg w (.slice q m d) xs) (hn : ts.length = n) (hm : xs.length = m) (h1 : n ≤ 100) (h2 : m ≤ 40) (e0 : Int) (he : newE s g ts = e0) (hne : e0 ≠ 0) :
    Calls Try.prog 3 #[.int .i64 s, .int .i64 g, .slice p n c, .slice q m d] w fun e w' => e = .returned (.bool true) ∧ Below w.heap.size w w' := by
  have HE := Lib.hid he
  have HH := head_ret
  have d1 : decide ((100 : Int) < (n : Int)) = false := decide_eq_false (by omega)
  have d2 : decide ((40 : Int) < (m : Int)) = false := decide_eq_false (by omega)
  have HT := Lib.hid h
  have HX := Lib.hid hx
  have HN := Lib.hid hn
  have HM := Lib.hid hm
  have HL : Hid (ts.length ≤ 1000) := Lib.hid (by omega)
  have d5 : (e0 == 0) = false := by rw [beq_eq_false_iff_ne]; exact hne
  have d6 : (e0 != 0) = true := by rw [bne_iff_ne]; exact hne
  have HNE := Lib.hid hne
  clear h hx hn hm he hne
  go_enter Try.func3, Try.ntmps3
  go_wp2_with (first
    | (go_at_call 8; (with_reducible refine (HH.go _).mono ?_); rintro e w1 ⟨rfl, hb⟩; have HB := Lib.hid hb; clear hb)
    | (at_builtin; refine wpList_mine rfl _ _ rfl w1 (.slice p n c) ts rfl rfl (HT.out.below HB.out) HL.out ?_; intro v1 w2 hm ht hb; obtain ⟨g1, cap1, cur1, rfl, hm⟩ := hm; rw [HN.out] at hm ht ⊢; have HMINE := Lib.hid hm; have HTM := Lib.hid ht; have HB2 := Lib.hid (bTr HB.out hb); clear hm ht hb)
    | (go_at_call 9; (with_reducible refine ((newWrong HTM.out HE.out HNE.out).out _ (bRef _)).mono ?_); rintro e w3 ⟨rfl, hb⟩; have HB3 := Lib.hid hb; clear hb))
  have HB3' := Lib.hid (bTr HB2.out HB3.out)
  have HM0 : Hid (n ≤ cap1 ∧ w.heap.size ≤ g1 ∧ g1 < w2.heap.size) := Lib.hid ⟨HMINE.out.1, Nat.le_trans HB.out.size HMINE.out.2.1, z_lt HMINE.out.2.2.1⟩
  have HZ3 := Lib.hid (⟨_, z_old HMINE.out.2.2.1 HB3.out, HMINE.out.2.2.2⟩ : ∃ cur, w3.heap[g1]? = some (.cells cur 32 (0, 0)) ∧ cur.size = cap1 * 2)
  clear HB HB2 HB3 HMINE HTM
  go_loopw [49] (fun kv wr => ZRel w w2.heap.size g1 cap1 n (fun _ => True) kv wr) (fun kv _ => n - (intOf kv).toNat)
  case atStart => exact ⟨0, by omega, rfl, HZ3.out, trivial, HB3'.out⟩
  case round =>
    clear HB3' HZ3
    obtain ⟨k, hk, rfl, ⟨cur, hcur, hcs⟩, -, hb⟩ := hrel
    rcases Nat.lt_or_ge k n with hlt | hge
    · have hd : decide ((k : Int) < (n : Int)) = true := decide_eq_true (by omega)
      obtain ⟨⟨z, hz⟩, hzf⟩ := z_cell hcur hcs HM0.out.1 hlt
      have HZ := Lib.hid (z_set (i := k * 2 + 1) (.int .i64 0) hcur hcs HM0.out.2.1 hb)
      clear hcur hcs hb
      go_wp2_with fail
      go_roundw
      case rel => exact ⟨k + 1, by omega, by go_num, HZ.out.1, trivial, HZ.out.2⟩
      case measure => simp [intOf]; omega
    · obtain rfl : k = n := by omega
      have hd : decide ((k : Int) < (k : Int)) = false := decide_eq_false (by omega)
      have HB := Lib.hid hb
      clear hcur hcs hb
      go_wp2_with (first
        | (go_at_call 10; (with_reducible refine (plain_at (HT.out.below HB.out) HL.out).mono ?_); rintro e w5 ⟨pa, na, ca, pr, nr, cr, rfl, hrc, hb⟩; have HRC := Lib.hid (hrc.below (bAl (bRef _) (.cells #[.int .i64 s, .int .i64 g, .slice pa na ca, .slice pr nr cr] 34))); replace HB := Lib.hid (bAl (bTr HB.out hb) (.cells #[.int .i64 s, .int .i64 g, .slice pa na ca, .slice pr nr cr] 34)); have HBOX := Lib.hid (box_new w5 s g (.slice pa na ca) (.slice pr nr cr)); obtain ⟨-, b0, b1', b2, b3⟩ := HBOX.out; clear hrc hb)
        | (go_at_call 11; (with_reducible refine (rchk_at HRC.out HE.out).mono ?_); rintro e w6 ⟨rfl, hb⟩; replace HBOX := Lib.hid (HBOX.out.below hb); replace HRC := Lib.hid (HRC.out.below hb); replace HB := Lib.hid (bTr HB.out hb); clear hb)
        | (go_at_call 12; (with_reducible refine (at_nil 0 _).mono ?_); rintro e w7 ⟨rfl, hb⟩; replace HB := Lib.hid (bTr HB.out hb); clear hb)
        | (go_at_call 13; (with_reducible refine (when_nil 0 _).mono ?_); rintro e w8 ⟨rfl, hb⟩; replace HB := Lib.hid (bTr HB.out hb); clear hb))
      go_ret
      exact ⟨rfl, HB.out⟩

theorem oscTells_holds : Rows.OscTellsSaid := oscTells_of (fun s g v ts u xs w _ _ _ _ h hx => by
  obtain ⟨p, c, rfl⟩ := h.slice
  obtain ⟨q, d, rfl⟩ := hx.slice
  by_cases h1 : 100 < ts.length ∨ 40 < xs.length
  · exact tells_many p q _ c _ d s g w h1
  · by_cases he : newE s g ts = 0
    · exact tells_some p q _ c _ d s g ts xs w h hx rfl rfl (by omega) (by omega) he
    · exact tells_wrong p q _ c _ d s g ts xs w h hx rfl rfl (by omega) (by omega) _ rfl he)

end Go.Proofs.Ytffjbngelapmmaa
