/- For all two ints TreeLine answers true: along a line of clocks each tells as many steps as it is away, and the path there. No condition. -/
import Derived.Test.YtihddpoaemhlnaaFTreeLine
import Derived.Test.YtihddpoaemhlnaaTrLine
import Derived.Test.YtihddpoaemhlnaaBtLow
namespace Go.Proofs.Ytihddpoaemhlnaa
open Go.RowKit Go.Joins Go.Deep

theorem lowN (n : Int) : bits .and .i64 n 15 = n % 16 := and_low n 4 (by omega)
theorem lowS (n : Int) : bits .and .i64 n 65535 = n % 65536 := and_low n 16 (by omega)
theorem line_news {k : Nat} (hk : k < 16) (W : World) : Calls Try.prog 22 #[.int .i64 3, .agg #[.int .i64 (k : Int), .int .i64 0, .int .i64 0, .int .i64 (100 + (k : Int))], .int .i64 2, .int .i64 9] W fun e w' => ∃ b g, e = .returned (.tuple #[.pointer (some ⟨b, 0, none⟩), .int .i64 0]) ∧ Tr w' b g (lineN k) ∧ W.heap.size ≤ b ∧ W.heap.size ≤ g ∧ Below W.heap.size W w' :=
  new_ok 3 ⟨(k : Int), 0, 0, 100 + (k : Int)⟩ 2 9 W (lineN_new hk) (small_in64 (by decide) (by decide)) (line_own hk)
theorem line_ins {s : Int} (hs : 0 ≤ s ∧ s ≤ 65535) {k j : Nat} (hkj : k = j + 1) (hk : k < 16) {W : World} {b g : Nat} {u : Value} (h : Tr W b g (lineB k)) (hu : PA W u (lineP j)) : Calls Try.prog 27 #[.pointer (some ⟨b, 0, none⟩), .int .i64 0, .agg #[.int .i64 11, .int .i64 3, .int .i64 s, .int .i64 (100 + (j : Int)), .int .i64 1, .int .i64 0, .int .i64 0, .int .i64 0, .int .i64 0, .int .i64 0, .int .i64 0, .int .i64 0, .int .i64 0, .int .i64 100, .int .i64 (j : Int), u], .int .i64 0] W fun e w' => e = .returned (.int .i64 0) ∧ LeaveT b g W (lineT k) w' := by
  subst hkj
  refine (in_any h (lineB_ok hk) 0 (lineM 1 s j) u 0 (lineM_wf (small_in64 (by decide) (by decide)) (small_in64 hs.1 (by omega)) (by omega)) (hu.larg (lineP_in (by omega))) (by rw [show (lineM 1 s j).path = lineP j from rfl, lineP_len]; omega)).mono fun e w' hq => ?_
  rw [line_in hs hk, line_inT hs hk] at hq
  exact hq
/-- The k-th clock's path, in a block of its own. -/
def Row100 (W : World) (q k : Nat) : Prop := ∃ cs, W.heap[q]? = some (.cells cs 3 (0, 0)) ∧ ∀ j, j < k + 1 → cs[j]? = some (.int .i64 (100 + (j : Int)))
theorem Row100.below {W W' : World} {q k : Nat} (h : Row100 W q k) (hb : Below W.heap.size W W') : Row100 W' q k := by
  obtain ⟨cs, h1, h2⟩ := h
  exact ⟨cs, (hb.block _ (lt_of_heap h1)).trans h1, h2⟩
theorem Row100.cell {W : World} {q k : Nat} (h : Row100 W q k) {j : Nat} (hj : j < k + 1) : W.cell? ⟨q, j, none⟩ = some (.int .i64 (100 + (j : Int))) := by
  obtain ⟨cs, h1, h2⟩ := h
  exact (cell_of_row _ _ _ _ _ _ h1).trans (h2 j hj)
theorem Row100.pa {W : World} {q k L c : Nat} (h : Row100 W q k) (hL : L = k + 1) (hc : L ≤ c) : PA W (.slice (some ⟨q, 0, none⟩) L c) (lineP k) := by
  subst hL
  obtain ⟨cs, h1, h2⟩ := h
  refine .inr ⟨by rw [lineP_len]; omega, q, 0, c, cs, (0, 0), by rw [lineP_len], by rw [lineP_len]; exact hc, h1, fun j x hj => ?_⟩
  have hjl : j < k + 1 := by have := (List.getElem?_eq_some_iff.1 hj).1; rwa [lineP_len] at this
  rw [lineP_at hjl] at hj
  cases hj
  rw [Nat.zero_add]
  exact h2 j hjl
theorem Row100.row {W : World} {q k g : Nat} {cs cs' : Array Value} {fr : Nat × Nat} (h : Row100 W q k) (hg : W.heap[g]? = some (.cells cs 58 fr)) : Row100 (W.setRow g cs') q k := by
  obtain ⟨c, h1, h2⟩ := h
  exact ⟨c, (setRow_other W g q cs' (neq_tag h1 hg (by decide))).trans h1, h2⟩
theorem own_row100 {B : Nat} {W : World} {p : Option Addr} {L k c : Nat} (h : OwnR C1 3 1 B W (.slice p L c) (lineP k)) : ∃ q, p = some ⟨q, 0, none⟩ ∧ L ≤ c ∧ Row100 W q k := by
  rcases own_pa h with ⟨h1, _⟩ | ⟨_, q, o, c', cs, fr, e, hc, hg, hat⟩
  · have := lineP_len k; rw [h1] at this; cases this
  · obtain ⟨g, cur, e2, _, hg2, h3⟩ := h.at C1_size (by rw [lineP_len]; omega)
    injection e with e1 e3 e4
    have hl := lineP_len k
    refine ⟨g, e2, by omega, cur, hg2, fun j hj => ?_⟩
    have := h3 j _ (lineP_at hj) 0 _ rfl
    rw [cell_of_row _ _ _ _ _ _ hg2, Nat.mul_one] at this
    exact this
theorem line_outs {s : Int} (hs : 0 ≤ s ∧ s ≤ 65535) {k : Nat} (hk : k < 16) {W : World} {b g : Nat} (h : Tr W b g (lineT k)) : Calls Try.prog 24 #[.pointer (some ⟨b, 0, none⟩), .int .i64 1, .int .i64 s, .int .i64 1] W fun e w' => ∃ q L pc, e = .returned (.tuple #[.agg #[.int .i64 11, .int .i64 3, .int .i64 s, .int .i64 (100 + (k : Int)), .int .i64 1, .int .i64 0, .int .i64 0, .int .i64 0, .int .i64 0, .int .i64 0, .int .i64 0, .int .i64 0, .int .i64 0, .int .i64 100, .int .i64 (k : Int), .slice (some ⟨q, 0, none⟩) L pc], .bool true]) ∧ L = k + 1 ∧ L ≤ pc ∧ Row100 w' q k ∧ Below W.heap.size W w' := by
  refine (out_any h (lineT_ok hk) (lineT_fit hk) 1 s 1 (small_in64 (by decide) (by decide)) (small_in64 hs.1 (by omega)) (small_in64 (by decide) (by decide))).mono fun e w' hq => ?_
  rw [line_outB hs hk, line_outM hk] at hq
  obtain ⟨p, c, he, hu, hb⟩ := hq.yes
  obtain ⟨q, rfl, hc, hr⟩ := own_row100 (k := k) hu
  exact ⟨q, _, c, he, lineP_len k, hc, hr, hb⟩
theorem line_first1 {s : Int} (hs : 0 ≤ s ∧ s ≤ 65535) {k : Nat} (hk : k = 0) {W : World} {b g : Nat} (h : Tr W b g (lineT k)) : Calls Try.prog 24 #[.pointer (some ⟨b, 0, none⟩), .int .i64 0, .int .i64 s, .int .i64 1] W fun e w' => ∃ p L pc, e = .returned (.tuple #[.agg #[.int .i64 11, .int .i64 3, .int .i64 s, .int .i64 (100 + (k : Int)), .int .i64 0, .int .i64 0, .int .i64 0, .int .i64 0, .int .i64 0, .int .i64 0, .int .i64 0, .int .i64 0, .int .i64 0, .int .i64 100, .int .i64 (k : Int), .slice p L pc], .bool true]) ∧ Below W.heap.size W w' := by
  subst hk
  refine (out_any h (lineT_ok (by decide)) (lineT_fit (by decide)) 0 s 1 zero_in64 (small_in64 hs.1 (by omega)) (small_in64 (by decide) (by decide))).mono fun e w' hq => ?_
  rw [line_first hs] at hq
  obtain ⟨p, c, he, hu, hb⟩ := hq.yes
  exact ⟨p, _, c, he, hb⟩
theorem line_backs {s : Int} (hs : 0 ≤ s ∧ s ≤ 65535) {k j : Nat} (hkj : k = j + 1) (hk : k < 16) {W : World} {b g : Nat} (h : Tr W b g (lineT k)) : Calls Try.prog 24 #[.pointer (some ⟨b, 0, none⟩), .int .i64 0, .int .i64 s, .int .i64 1] W fun e w' => e = .returned (.tuple #[.agg #[.int .i64 0, .int .i64 0, .int .i64 0, .int .i64 0, .int .i64 0, .int .i64 0, .int .i64 0, .int .i64 0, .int .i64 0, .int .i64 0, .int .i64 0, .int .i64 0, .int .i64 0, .int .i64 0, .int .i64 0, .slice none 0 0], .bool false]) ∧ Below W.heap.size W w' := by
  subst hkj
  refine (out_any h (lineT_ok hk) (lineT_fit hk) 0 s 1 zero_in64 (small_in64 hs.1 (by omega)) (small_in64 (by decide) (by decide))).mono fun e w' hq => ?_
  rw [line_back hk] at hq
  exact hq.no
/-- The box of what was told last, and the clock, in a world that came of w. -/
structure LS (w W : World) (l : Nat) (cs : Array Value) (u : Value) (xs : List Int) (b g : Nat) (t : Ts) : Prop where
  bel : Below w.heap.size w W
  box : W.heap[l]? = some (.cells cs 58 (0, 0))
  big : w.heap.size ≤ l
  pa : PA W u xs
  tr : Tr W b g t
  lg : w.heap.size ≤ g
section
variable {w W W' : World} {l : Nat} {cs : Array Value} {u : Value} {xs : List Int} {b g : Nat} {t t' : Ts}
theorem LS.below (h : LS w W l cs u xs b g t) (hb : Below W.heap.size W W') : LS w W' l cs u xs b g t := ⟨bTr h.bel hb, (hb.block _ (lt_of_heap h.box)).trans h.box, h.big, h.pa.below hb, h.tr.below hb, h.lg⟩
theorem LS.set (h : LS w W l cs u xs b g t) (hl : LeaveT b g W t' W') : LS w W' l cs u xs b g t' := by
  obtain ⟨c, hc⟩ := h.tr.tag
  exact ⟨hl.2.from_ h.bel h.lg, (hl.2.block _ (lt_of_heap h.box) (neq_tag h.box hc (by decide))).trans h.box, h.big, h.pa.keep fun k _ _ hk => hl.2.block k (lt_of_heap hk) (neq_tag hk hc (by decide)), hl.1, h.lg⟩
end
/-- At the head of a round. -/
structure LineW (w W : World) (l : Nat) (s : Int) (k : Nat) : Prop where
  bel : Below w.heap.size w W
  big : w.heap.size ≤ l
  box : ∃ cs u xs, W.heap[l]? = some (.cells cs 58 (0, 0)) ∧ cs.size = 16 ∧ PA W u xs ∧ ∀ j, k = j + 1 → cs = #[.int .i64 11, .int .i64 3, .int .i64 s, .int .i64 (100 + (j : Int)), .int .i64 1, .int .i64 0, .int .i64 0, .int .i64 0, .int .i64 0, .int .i64 0, .int .i64 0, .int .i64 0, .int .i64 0, .int .i64 100, .int .i64 (j : Int), u] ∧ xs = lineP j ∧ ∃ p n c, u = .slice p n c
def LineRel (w : World) (l n : Nat) (s : Int) (iv : Value) (wr : World) : Prop := ∃ k : Nat, iv = .int .i64 (k : Int) ∧ k ≤ n ∧ LineW w wr l s k
theorem wr_small {x : Int} (h0 : 0 ≤ x) (h1 : x < 2147483648) : wrap64 x = x := by unfold wrap64; omega
theorem wr_i64 {i : Nat} (h : i < 17) : IntKind.i64.wrap (i : Int) = (i : Int) := by rw [IntKind.wrap_i64]; omega
theorem num_up {i : Nat} {z : Int} (h : z = (i : Int) + 1) : (Value.int .i64 z) = .int .i64 ((i + 1 : Nat) : Int) := by subst h; rfl
theorem meas_up {n i : Nat} {z : Int} (h : z = (i : Int) + 1) (hi : i < n) : n - (intOf (.int .i64 z)).toNat < n - (intOf (.int .i64 (i : Int))).toNat := by
  subst h
  show n - ((i : Int) + 1).toNat < n - (i : Int).toNat
  omega
theorem dec_lt {i n : Nat} (h : i < n) : decide ((i : Int) < (n : Int)) = true := decide_eq_true (by omega)
theorem wr_up {i : Nat} (h : i < 17) : wrap64 ((i : Int) + 1) = (i : Int) + 1 := wr_small (by omega) (by omega)
theorem wr_100 {i : Nat} (h : i < 17) : wrap64 (100 + (i : Int)) = 100 + (i : Int) := wr_small (by omega) (by omega)
def LineIn (W : World) (n : Nat) (iv : Value) (wr : World) : Prop := ∃ i : Nat, i ≤ n ∧ iv = .int .i64 (i : Int) ∧ wr = W
theorem LineW.start {w W : World} {l : Nat} {cs : Array Value} {u : Value} {xs : List Int} {b g : Nat} {t : Ts} {s : Int} {k q L c : Nat} (h : LS w W l cs u xs b g t) (hr : Row100 W q k) (_hs : cs.size = 16) (hL : L = k + 1) (hc : L ≤ c) : LineW w (W.setRow l #[.int .i64 11, .int .i64 3, .int .i64 s, .int .i64 (100 + (k : Int)), .int .i64 1, .int .i64 0, .int .i64 0, .int .i64 0, .int .i64 0, .int .i64 0, .int .i64 0, .int .i64 0, .int .i64 0, .int .i64 100, .int .i64 (k : Int), .slice (some ⟨q, 0, none⟩) L c]) l s (k + 1) :=
  ⟨bRow h.bel _ h.big _, h.big, _, _, _, setRow_heap _ _ _ _ _ _ h.box, rfl, (hr.row h.box).pa hL hc, fun j hj => (by
    obtain rfl : k = j := by omega
    exact ⟨rfl, rfl, _, _, _, rfl⟩)⟩
set_option maxRecDepth 20000 in
set_option maxHeartbeats 4000000 in
theorem line_any (x0 x1 : Int) (w : World) : Calls Try.prog 12 #[.int .i64 x0, .int .i64 x1] w fun e w' => e = .returned (.bool true) ∧ Below w.heap.size w w' := by
  have HH := Lib.hid (fun W => head20_ret W)
  have l1 := lowN x0
  have l2 := lowS x1
  obtain ⟨r, hr⟩ : ∃ r : Nat, x0 % 16 = (r : Int) := ⟨(x0 % 16).toNat, by omega⟩
  obtain ⟨n, hn⟩ : ∃ n : Nat, n = r + 1 := ⟨_, rfl⟩
  obtain ⟨s, hs⟩ : ∃ s : Int, x1 % 65536 = s := ⟨_, rfl⟩
  have hw1 : wrap64 (1 + (r : Int)) = (n : Int) := by unfold wrap64; omega
  have hn16 : n ≤ 16 := by omega
  have hs16 : 0 ≤ s ∧ s ≤ 65535 := by omega
  rw [hr] at l1
  rw [hs] at l2
  have HNN := Lib.hid hn16
  have HSS := Lib.hid hs16
  clear hr hn hs hn16 hs16
  go_enter Try.func12, Try.ntmps12
  go_wp2_with (go_at_call 21; (with_reducible refine (HH.out _).mono ?_); rintro e w1 ⟨rfl, hb⟩; have HB1 := Lib.hid hb; clear hb)
  rw [hw1]
  clear hw1
  go_loopw [6] (fun iv wr => LineRel w w1.heap.size n s iv wr) (fun iv _ => n - (intOf iv).toNat)
  case atStart => exact ⟨0, rfl, by omega, bAl HB1.out _, HB1.out.size, _, .slice none 0 0, [], heap_alloc_new w1 _, rfl, PA.nil _, fun j hj => by cases hj⟩
  case round =>
    obtain ⟨k, rfl, hkn, hL⟩ := hrel
    have HL := Lib.hid hL
    generalize w1.heap.size = l0 at *
    clear HH HB1 l1 l2 hL
    have hn16 := HNN.out
    have hs16 := HSS.out
    rcases Nat.lt_or_ge k n with g1 | g1
    · have hd : decide ((k : Int) < (n : Int)) = true := decide_eq_true (by omega)
      have hk16 : k < 16 := by omega
      have HK := Lib.hid hk16
      have HKn := Lib.hid g1
      have HW2 := Lib.hid (wr_100 (i := k) (by omega))
      have HW3 := Lib.hid (wr_up (i := k) (by omega))
      have e1 : ((k : Int) != (k : Int)) = false := by simp
      have e2 : (100 + (k : Int) != 100 + (k : Int)) = false := by simp
      have e3 : (s != s) = false := by simp
      have HN := Lib.hid (fun W => line_news hk16 W)
      have HUp := Lib.hid (fun (W : World) (b g : Nat) (t : Ts) (a : Int) (h : Tr W b g t) => up_any h a true)
      have HO := Lib.hid (fun (W : World) (b g : Nat) (h : Tr W b g (lineT k)) => line_outs hs16 hk16 h)
      obtain ⟨cs, u, xs, hbox, hsz, hpa, hlast⟩ := HL.out.box
      have HBox := Lib.hid hbox
      have HSz := Lib.hid hsz
      have HPa := Lib.hid hpa
      clear hbox hsz hpa
      by_cases hk0 : k = 0
      · have d0 : decide ((0 : Int) < (k : Int)) = false := decide_eq_false (by omega)
        have d1 : ((k : Int) == 0) = true := by rw [beq_iff_eq]; omega
        have d2 : ¬ 0 < k := by omega
        have d3 : (k == 0) = true := by rw [beq_iff_eq]; exact hk0
        have HF := Lib.hid (fun (W : World) (b g : Nat) (h : Tr W b g (lineT k)) => line_first1 hs16 hk0 h)
        have HTk : Hid (lineB k = lineT k) := Lib.hid (by subst hk0; rfl)
        clear hlast hn16 hs16 hkn g1 hk16 hk0
        have hw2 := HW2.out
        have hw3 := HW3.out
        go_upto_region 19 with (first
          | (go_at_call 22; (with_reducible refine (HN.out _).mono ?_); rintro e w2 ⟨b, g, rfl, ht, _, hg, hb⟩; have HS2 : Hid (LS w w2 l0 _ _ _ b g (lineN k)) := Lib.hid ⟨bTr HL.out.bel hb, (hb.block _ (lt_of_heap HBox.out)).trans HBox.out, HL.out.big, HPa.out.below hb, ht, Nat.le_trans HL.out.bel.size hg⟩; clear ht hb hg)
          | (go_at_call 25; (with_reducible refine (HUp.out _ _ _ _ 0 HS2.out.tr).mono ?_); rintro e w3 ⟨rfl, hl⟩; have HS3 := Lib.hid (HS2.out.set hl); clear hl)
          | (go_at_call 25; (with_reducible refine (HUp.out _ _ _ _ 1 HS3.out.tr).mono ?_); rintro e w4 ⟨rfl, hl⟩; have HS5 : Hid (LS w w4 l0 _ _ _ b g (lineT k)) := Lib.hid (by rw [← HTk.out]; exact HS3.out.set hl); clear hl)
          | (go_at_call 24; (with_reducible refine (HO.out _ _ _ HS5.out.tr).mono ?_); rintro e w6 ⟨q, L, pc, rfl, hL, hLc, hrow, hb⟩; have HS6 := Lib.hid ((HS5.out.below hb).below (bAl (bRef w6) (.cells #[.int .i64 11, .int .i64 3, .int .i64 s, .int .i64 (100 + (k : Int)), .int .i64 1, .int .i64 0, .int .i64 0, .int .i64 0, .int .i64 0, .int .i64 0, .int .i64 0, .int .i64 0, .int .i64 0, .int .i64 100, .int .i64 (k : Int), .slice (some ⟨q, 0, none⟩) L pc] 58))); have HRw := Lib.hid (hrow.below (bAl (bRef w6) (.cells #[.int .i64 11, .int .i64 3, .int .i64 s, .int .i64 (100 + (k : Int)), .int .i64 1, .int .i64 0, .int .i64 0, .int .i64 0, .int .i64 0, .int .i64 0, .int .i64 0, .int .i64 0, .int .i64 0, .int .i64 100, .int .i64 (k : Int), .slice (some ⟨q, 0, none⟩) L pc] 58))); have HBx := Lib.hid (heap_alloc_new w6 (.cells #[.int .i64 11, .int .i64 3, .int .i64 s, .int .i64 (100 + (k : Int)), .int .i64 1, .int .i64 0, .int .i64 0, .int .i64 0, .int .i64 0, .int .i64 0, .int .i64 0, .int .i64 0, .int .i64 0, .int .i64 100, .int .i64 (k : Int), .slice (some ⟨q, 0, none⟩) L pc] 58)); have HLL := Lib.hid hL; have HLc := Lib.hid hLc; have e4 : ((L : Int) != (k : Int) + 1) = false := (by subst hL; simp); clear hb hrow hL hLc)
          | ((with_reducible refine at_storeM ?_); refine wpList_storeNW rfl _ _ _ rfl w6.heap.size rfl #[.int .i64 11, .int .i64 3, .int .i64 s, .int .i64 (100 + (k : Int)), .int .i64 1, .int .i64 0, .int .i64 0, .int .i64 0, .int .i64 0, .int .i64 0, .int .i64 0, .int .i64 0, .int .i64 0, .int .i64 100, .int .i64 (k : Int), .slice (some ⟨q, 0, none⟩) L pc] _ _ rfl rfl (by simp [Value.oneCell']) (by kernel_rfl) rfl ?_))
        have c15 : (w6.alloc (.cells #[.int .i64 11, .int .i64 3, .int .i64 s, .int .i64 (100 + (k : Int)), .int .i64 1, .int .i64 0, .int .i64 0, .int .i64 0, .int .i64 0, .int .i64 0, .int .i64 0, .int .i64 0, .int .i64 0, .int .i64 100, .int .i64 (k : Int), .slice (some ⟨q, 0, none⟩) L pc] 58)).cell? ⟨w6.heap.size, 15, none⟩ = some (.slice (some ⟨q, 0, none⟩) L pc) := cell_of_row _ _ 15 _ _ _ HBx.out
        generalize w6.alloc (.cells #[.int .i64 11, .int .i64 3, .int .i64 s, .int .i64 (100 + (k : Int)), .int .i64 1, .int .i64 0, .int .i64 0, .int .i64 0, .int .i64 0, .int .i64 0, .int .i64 0, .int .i64 0, .int .i64 0, .int .i64 100, .int .i64 (k : Int), .slice (some ⟨q, 0, none⟩) L pc] 58) = W6 at *
        generalize w6.heap.size = bx at *
        have D0 := Lib.hid d0
        have D2 := Lib.hid d2
        clear hw2 hw3 d0 d2
        go_wp2_with fail
        go_loopw [103] (fun iv wr => LineIn W6 L iv wr) (fun iv _ => L - (intOf iv).toNat)
        case atStart => exact ⟨0, Nat.zero_le _, rfl, rfl⟩
        case round =>
          obtain ⟨i, hi, rfl, rfl⟩ := hrel
          rcases Nat.lt_or_ge i L with g2 | g2
          · have hL := HLL.out
            have hk16 := HK.out
            have hi17 : i < 17 := by omega
            have ci : wr.cell? ⟨q, i, none⟩ = some (.int .i64 (100 + (i : Int))) := HRw.out.cell (by omega)
            clear hL hk16
            have hd2 := dec_lt g2
            have hir := wr_i64 hi17
            have hql : q < wr.heap.size := block_lt_cell ci
            have e5 : (100 + (i : Int) != 100 + (i : Int)) = false := by simp
            have hw5 := wr_100 hi17
            have hw6 := wr_up hi17
            clear hi17
            go_wp2_with fail
            go_roundw
            case rel => exact ⟨i + 1, g2, num_up (by first | exact hw6 | rfl), rfl⟩
            case measure => exact meas_up (by first | exact hw6 | rfl) g2
          · obtain rfl : i = L := by omega
            have hd2 : decide ((i : Int) < (i : Int)) = false := decide_eq_false (by omega)
            clear hi g2
            have d0 := D0.out
            have d2 := D2.out
            have hw3 := HW3.out
            go_wp2_with (first
              | (go_at_call 24; (with_reducible refine (HF.out _ _ _ HS6.out.tr).mono ?_); rintro e w7 ⟨p2, L2, pc2, rfl, hb⟩; have HS7 := Lib.hid ((HS6.out.below hb).below (bAl (bRef w7) (.cells #[.int .i64 11, .int .i64 3, .int .i64 s, .int .i64 (100 + (k : Int)), .int .i64 0, .int .i64 0, .int .i64 0, .int .i64 0, .int .i64 0, .int .i64 0, .int .i64 0, .int .i64 0, .int .i64 0, .int .i64 100, .int .i64 (k : Int), .slice p2 L2 pc2] 58))); have HBx7 := Lib.hid ((hb.alloc (hb.size) (.cells #[.int .i64 11, .int .i64 3, .int .i64 s, .int .i64 (100 + (k : Int)), .int .i64 0, .int .i64 0, .int .i64 0, .int .i64 0, .int .i64 0, .int .i64 0, .int .i64 0, .int .i64 0, .int .i64 0, .int .i64 100, .int .i64 (k : Int), .slice p2 L2 pc2] 58)).block _ (lt_of_heap HBx.out) |>.trans HBx.out); have HEnd := Lib.hid (LineW.start (s := s) (c := pc) HS7.out ((HRw.out.below hb).below (bAl (bRef w7) (.cells #[.int .i64 11, .int .i64 3, .int .i64 s, .int .i64 (100 + (k : Int)), .int .i64 0, .int .i64 0, .int .i64 0, .int .i64 0, .int .i64 0, .int .i64 0, .int .i64 0, .int .i64 0, .int .i64 0, .int .i64 100, .int .i64 (k : Int), .slice p2 L2 pc2] 58))) (by first | exact HSz.out | rfl) HLL.out HLc.out); clear hb)
              | ((with_reducible refine at_storeM ?_); refine wpList_storeNW rfl _ _ _ rfl w7.heap.size rfl #[.int .i64 11, .int .i64 3, .int .i64 s, .int .i64 (100 + (k : Int)), .int .i64 0, .int .i64 0, .int .i64 0, .int .i64 0, .int .i64 0, .int .i64 0, .int .i64 0, .int .i64 0, .int .i64 0, .int .i64 100, .int .i64 (k : Int), .slice p2 L2 pc2] _ _ rfl rfl (by simp [Value.oneCell']) (by kernel_rfl) rfl ?_)
              | ((with_reducible refine at_loadM ?_); refine wpList_loadW rfl _ _ rfl bx 0 rfl #[.int .i64 11, .int .i64 3, .int .i64 s, .int .i64 (100 + (k : Int)), .int .i64 1, .int .i64 0, .int .i64 0, .int .i64 0, .int .i64 0, .int .i64 0, .int .i64 0, .int .i64 0, .int .i64 0, .int .i64 100, .int .i64 (k : Int), .slice (some ⟨q, 0, none⟩) i pc] _ (range_whole HBx7.out) Try.underlying58 rfl (by kernel_rfl) ?_)
              | ((with_reducible refine at_storeM ?_); refine wpList_store_row rfl _ _ _ rfl l0 #[.int .i64 11, .int .i64 3, .int .i64 s, .int .i64 (100 + (k : Int)), .int .i64 1, .int .i64 0, .int .i64 0, .int .i64 0, .int .i64 0, .int .i64 0, .int .i64 0, .int .i64 0, .int .i64 0, .int .i64 100, .int .i64 (k : Int), .slice (some ⟨q, 0, none⟩) i pc] rfl rfl _ _ HS7.out.box (by kernel_rfl) (by first | exact HSz.out | rfl) (by simp [Value.oneCell']) ?_))
            go_roundw
            case rel => exact ⟨k + 1, num_up (by first | exact hw3 | rfl), HKn.out, HEnd.out⟩
            case measure => exact meas_up (by first | exact hw3 | rfl) HKn.out
      · obtain ⟨j, hkj⟩ : ∃ j, k = j + 1 := ⟨k - 1, by omega⟩
        obtain ⟨rfl, rfl, p0, n0, c0, rfl⟩ := hlast j hkj
        have d0 : decide ((0 : Int) < (k : Int)) = true := decide_eq_true (by omega)
        have d1 : ((k : Int) == 0) = false := by rw [beq_eq_false_iff_ne]; omega
        have d2 : 0 < k := by omega
        have d3 : (k == 0) = false := by rw [beq_eq_false_iff_ne]; exact hk0
        have HI := Lib.hid (fun (W : World) (b g : Nat) (u : Value) (h : Tr W b g (lineB k)) (hu : PA W u (lineP j)) => line_ins hs16 hkj hk16 h hu)
        have HBk := Lib.hid (fun (W : World) (b g : Nat) (h : Tr W b g (lineT k)) => line_backs hs16 hkj hk16 h)
        clear hlast hn16 hs16 hkn g1 hk16 hk0 hkj
        have hw2 := HW2.out
        have hw3 := HW3.out
        go_upto_region 19 with (first
          | (go_at_call 22; (with_reducible refine (HN.out _).mono ?_); rintro e w2 ⟨b, g, rfl, ht, _, hg, hb⟩; have HS2 : Hid (LS w w2 l0 _ _ _ b g (lineN k)) := Lib.hid ⟨bTr HL.out.bel hb, (hb.block _ (lt_of_heap HBox.out)).trans HBox.out, HL.out.big, HPa.out.below hb, ht, Nat.le_trans HL.out.bel.size hg⟩; clear ht hb hg)
          | (go_at_call 25; (with_reducible refine (HUp.out _ _ _ _ 0 HS2.out.tr).mono ?_); rintro e w3 ⟨rfl, hl⟩; have HS3 := Lib.hid (HS2.out.set hl); clear hl)
          | (go_at_call 25; (with_reducible refine (HUp.out _ _ _ _ 1 HS3.out.tr).mono ?_); rintro e w4 ⟨rfl, hl⟩; have HS4 : Hid (LS w w4 l0 _ _ _ b g (lineB k)) := Lib.hid (HS3.out.set hl); clear hl)
          | ((with_reducible refine at_loadM ?_); refine wpList_loadW rfl _ _ rfl l0 0 rfl #[.int .i64 11, .int .i64 3, .int .i64 s, .int .i64 (100 + (j : Int)), .int .i64 1, .int .i64 0, .int .i64 0, .int .i64 0, .int .i64 0, .int .i64 0, .int .i64 0, .int .i64 0, .int .i64 0, .int .i64 100, .int .i64 (j : Int), .slice p0 n0 c0] _ (range_whole HS4.out.box) Try.underlying58 rfl (by kernel_rfl) ?_)
          | (go_at_call 27; (with_reducible refine (HI.out _ _ _ _ HS4.out.tr HS4.out.pa).mono ?_); rintro e w5 ⟨rfl, hl⟩; have HS5 := Lib.hid (HS4.out.set hl); clear hl)
          | (go_at_call 24; (with_reducible refine (HO.out _ _ _ HS5.out.tr).mono ?_); rintro e w6 ⟨q, L, pc, rfl, hL, hLc, hrow, hb⟩; have HS6 := Lib.hid ((HS5.out.below hb).below (bAl (bRef w6) (.cells #[.int .i64 11, .int .i64 3, .int .i64 s, .int .i64 (100 + (k : Int)), .int .i64 1, .int .i64 0, .int .i64 0, .int .i64 0, .int .i64 0, .int .i64 0, .int .i64 0, .int .i64 0, .int .i64 0, .int .i64 100, .int .i64 (k : Int), .slice (some ⟨q, 0, none⟩) L pc] 58))); have HRw := Lib.hid (hrow.below (bAl (bRef w6) (.cells #[.int .i64 11, .int .i64 3, .int .i64 s, .int .i64 (100 + (k : Int)), .int .i64 1, .int .i64 0, .int .i64 0, .int .i64 0, .int .i64 0, .int .i64 0, .int .i64 0, .int .i64 0, .int .i64 0, .int .i64 100, .int .i64 (k : Int), .slice (some ⟨q, 0, none⟩) L pc] 58))); have HBx := Lib.hid (heap_alloc_new w6 (.cells #[.int .i64 11, .int .i64 3, .int .i64 s, .int .i64 (100 + (k : Int)), .int .i64 1, .int .i64 0, .int .i64 0, .int .i64 0, .int .i64 0, .int .i64 0, .int .i64 0, .int .i64 0, .int .i64 0, .int .i64 100, .int .i64 (k : Int), .slice (some ⟨q, 0, none⟩) L pc] 58)); have HLL := Lib.hid hL; have HLc := Lib.hid hLc; have e4 : ((L : Int) != (k : Int) + 1) = false := (by subst hL; simp); clear hb hrow hL hLc)
          | ((with_reducible refine at_storeM ?_); refine wpList_storeNW rfl _ _ _ rfl w6.heap.size rfl #[.int .i64 11, .int .i64 3, .int .i64 s, .int .i64 (100 + (k : Int)), .int .i64 1, .int .i64 0, .int .i64 0, .int .i64 0, .int .i64 0, .int .i64 0, .int .i64 0, .int .i64 0, .int .i64 0, .int .i64 100, .int .i64 (k : Int), .slice (some ⟨q, 0, none⟩) L pc] _ _ rfl rfl (by simp [Value.oneCell']) (by kernel_rfl) rfl ?_))
        have c15 : (w6.alloc (.cells #[.int .i64 11, .int .i64 3, .int .i64 s, .int .i64 (100 + (k : Int)), .int .i64 1, .int .i64 0, .int .i64 0, .int .i64 0, .int .i64 0, .int .i64 0, .int .i64 0, .int .i64 0, .int .i64 0, .int .i64 100, .int .i64 (k : Int), .slice (some ⟨q, 0, none⟩) L pc] 58)).cell? ⟨w6.heap.size, 15, none⟩ = some (.slice (some ⟨q, 0, none⟩) L pc) := cell_of_row _ _ 15 _ _ _ HBx.out
        generalize w6.alloc (.cells #[.int .i64 11, .int .i64 3, .int .i64 s, .int .i64 (100 + (k : Int)), .int .i64 1, .int .i64 0, .int .i64 0, .int .i64 0, .int .i64 0, .int .i64 0, .int .i64 0, .int .i64 0, .int .i64 0, .int .i64 100, .int .i64 (k : Int), .slice (some ⟨q, 0, none⟩) L pc] 58) = W6 at *
        generalize w6.heap.size = bx at *
        have D0 := Lib.hid d0
        have D2 := Lib.hid d2
        clear hw2 hw3 d0 d2
        go_wp2_with fail
        go_loopw [103] (fun iv wr => LineIn W6 L iv wr) (fun iv _ => L - (intOf iv).toNat)
        case atStart => exact ⟨0, Nat.zero_le _, rfl, rfl⟩
        case round =>
          obtain ⟨i, hi, rfl, rfl⟩ := hrel
          rcases Nat.lt_or_ge i L with g2 | g2
          · have hL := HLL.out
            have hk16 := HK.out
            have hi17 : i < 17 := by omega
            have ci : wr.cell? ⟨q, i, none⟩ = some (.int .i64 (100 + (i : Int))) := HRw.out.cell (by omega)
            clear hL hk16
            have hd2 := dec_lt g2
            have hir := wr_i64 hi17
            have hql : q < wr.heap.size := block_lt_cell ci
            have e5 : (100 + (i : Int) != 100 + (i : Int)) = false := by simp
            have hw5 := wr_100 hi17
            have hw6 := wr_up hi17
            clear hi17
            go_wp2_with fail
            go_roundw
            case rel => exact ⟨i + 1, g2, num_up (by first | exact hw6 | rfl), rfl⟩
            case measure => exact meas_up (by first | exact hw6 | rfl) g2
          · obtain rfl : i = L := by omega
            have hd2 : decide ((i : Int) < (i : Int)) = false := decide_eq_false (by omega)
            clear hi g2
            have d0 := D0.out
            have d2 := D2.out
            have hw3 := HW3.out
            go_wp2_with (first
              | (go_at_call 24; (with_reducible refine (HBk.out _ _ _ HS6.out.tr).mono ?_); rintro e w7 ⟨rfl, hb⟩; have HS7 := Lib.hid ((HS6.out.below hb).below (bAl (bRef w7) (.cells #[.int .i64 0, .int .i64 0, .int .i64 0, .int .i64 0, .int .i64 0, .int .i64 0, .int .i64 0, .int .i64 0, .int .i64 0, .int .i64 0, .int .i64 0, .int .i64 0, .int .i64 0, .int .i64 0, .int .i64 0, .slice none 0 0] 58))); have HBx7 := Lib.hid ((hb.alloc (hb.size) (.cells #[.int .i64 0, .int .i64 0, .int .i64 0, .int .i64 0, .int .i64 0, .int .i64 0, .int .i64 0, .int .i64 0, .int .i64 0, .int .i64 0, .int .i64 0, .int .i64 0, .int .i64 0, .int .i64 0, .int .i64 0, .slice none 0 0] 58)).block _ (lt_of_heap HBx.out) |>.trans HBx.out); have HEnd := Lib.hid (LineW.start (s := s) (c := pc) HS7.out ((HRw.out.below hb).below (bAl (bRef w7) (.cells #[.int .i64 0, .int .i64 0, .int .i64 0, .int .i64 0, .int .i64 0, .int .i64 0, .int .i64 0, .int .i64 0, .int .i64 0, .int .i64 0, .int .i64 0, .int .i64 0, .int .i64 0, .int .i64 0, .int .i64 0, .slice none 0 0] 58))) (by first | exact HSz.out | rfl) HLL.out HLc.out); clear hb)
              | ((with_reducible refine at_storeM ?_); refine wpList_storeNW rfl _ _ _ rfl w7.heap.size rfl #[.int .i64 0, .int .i64 0, .int .i64 0, .int .i64 0, .int .i64 0, .int .i64 0, .int .i64 0, .int .i64 0, .int .i64 0, .int .i64 0, .int .i64 0, .int .i64 0, .int .i64 0, .int .i64 0, .int .i64 0, .slice none 0 0] _ _ rfl rfl (by simp [Value.oneCell']) (by kernel_rfl) rfl ?_)
              | ((with_reducible refine at_loadM ?_); refine wpList_loadW rfl _ _ rfl bx 0 rfl #[.int .i64 11, .int .i64 3, .int .i64 s, .int .i64 (100 + (k : Int)), .int .i64 1, .int .i64 0, .int .i64 0, .int .i64 0, .int .i64 0, .int .i64 0, .int .i64 0, .int .i64 0, .int .i64 0, .int .i64 100, .int .i64 (k : Int), .slice (some ⟨q, 0, none⟩) i pc] _ (range_whole HBx7.out) Try.underlying58 rfl (by kernel_rfl) ?_)
              | ((with_reducible refine at_storeM ?_); refine wpList_store_row rfl _ _ _ rfl l0 #[.int .i64 11, .int .i64 3, .int .i64 s, .int .i64 (100 + (k : Int)), .int .i64 1, .int .i64 0, .int .i64 0, .int .i64 0, .int .i64 0, .int .i64 0, .int .i64 0, .int .i64 0, .int .i64 0, .int .i64 100, .int .i64 (k : Int), .slice (some ⟨q, 0, none⟩) i pc] rfl rfl _ _ HS7.out.box (by kernel_rfl) (by first | exact HSz.out | rfl) (by simp [Value.oneCell']) ?_))
            go_roundw
            case rel => exact ⟨k + 1, num_up (by first | exact hw3 | rfl), HKn.out, HEnd.out⟩
            case measure => exact meas_up (by first | exact hw3 | rfl) HKn.out
    · obtain rfl : k = n := by omega
      have hd : decide ((k : Int) < (k : Int)) = false := decide_eq_false (by omega)
      go_wp2_with fail
      go_ret
      exact ⟨rfl, HL.out.bel⟩

theorem treeLine_holds : Rows.TreeLineSaid := treeLine_of (fun x0 x1 w _ _ => line_any x0 x1 w)

end Go.Proofs.Ytihddpoaemhlnaa
