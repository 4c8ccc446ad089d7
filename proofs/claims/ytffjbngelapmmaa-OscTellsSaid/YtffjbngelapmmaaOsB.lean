/- Package osc: the legs of a clock. -/
import Derived.Test.YtffjbngelapmmaaOsA
import Derived.Maps.AppendAt
import Derived.Laws.MakeOwn
import Derived.Deep.DeepCutAuto
import Derived.Deep.RegionHeld3
namespace Go.Proofs.Ytffjbngelapmmaa
open Go.RowKit Go.Joins

theorem Try.infoL : (Try.prog.info? 57).map (fun i => (i.zero, i.size, i.bytes)) = some (some (.agg #[.int .i64 0, .int .i64 0, .int .i64 0]), 3, 24) := by kernel_rfl
/-- The cells of the first legs. -/
def lv (s : Int) (ts : List (Int × Int)) (k : Nat) : List Value := (List.range k).flatMap fun i => [.int .i64 (tA ts i), .int .i64 (tR ts i), .int .i64 (told s ts i)]
theorem lv_succ (s : Int) (ts : List (Int × Int)) (k : Nat) : lv s ts (k + 1) = lv s ts k ++ [.int .i64 (tA ts k), .int .i64 (tR ts k), .int .i64 (told s ts k)] := by
  unfold lv
  rw [List.range_succ, List.flatMap_append]; simp
theorem lv_len (s : Int) (ts : List (Int × Int)) (k : Nat) : (lv s ts k).length = k * 3 := by
  induction k with
  | zero => rfl
  | succ k ih => rw [lv_succ, List.length_append, ih]; simp; omega
theorem lv_one (s : Int) (ts : List (Int × Int)) (k : Nat) : ∀ u ∈ lv s ts k, u.oneCell' = true := by
  intro u hu
  simp only [lv, List.mem_flatMap, List.mem_cons, List.not_mem_nil, or_false] at hu
  obtain ⟨p, _, rfl | rfl | rfl⟩ := hu <;> rfl
theorem lv_at (s : Int) (ts : List (Int × Int)) (n k : Nat) (h : k < n) : (lv s ts n)[k * 3]? = some (.int .i64 (tA ts k)) ∧ (lv s ts n)[k * 3 + 1]? = some (.int .i64 (tR ts k)) ∧ (lv s ts n)[k * 3 + 2]? = some (.int .i64 (told s ts k)) := by
  induction n with
  | zero => omega
  | succ n ih =>
    have hl := lv_len s ts n
    rw [lv_succ]
    rcases Nat.lt_or_ge k n with g | g
    · have := ih g
      rw [List.getElem?_append_left (by omega), List.getElem?_append_left (by omega), List.getElem?_append_left (by omega)]
      exact this
    · obtain rfl : k = n := by omega
      rw [List.getElem?_append_right (by omega), List.getElem?_append_right (by omega), List.getElem?_append_right (by omega), hl]
      rw [show k * 3 - k * 3 = 0 by omega, show k * 3 + 1 - k * 3 = 1 by omega, show k * 3 + 2 - k * 3 = 2 by omega]
      exact ⟨rfl, rfl, rfl⟩

/-- The call's own legs: in a row that is not block g6. -/
def OwnL (w0 : World) (g6 : Nat) (w : World) (v : Value) (s : Int) (ts : List (Int × Int)) (k : Nat) : Prop :=
  w.ownsRow w0.heap.size 57 3 v k (lv s ts k) ∧ Below w0.heap.size w0 w ∧ (∃ g c, v = .slice (some ⟨g, 0, none⟩) k c ∧ g ≠ g6)
/-- What the variable holds ahead of turn k. -/
def lastA (ts : List (Int × Int)) (k : Nat) : Int := if k = 0 then 0 else tA ts (k - 1)
def lastR (ts : List (Int × Int)) (k : Nat) : Int := if k = 0 then 0 else tR ts (k - 1)
def lastT (s : Int) (ts : List (Int × Int)) (k : Nat) : Int := if k = 0 then s else told s ts (k - 1)
theorem last_told {s : Int} {ts : List (Int × Int)} (h0 : tA ts 0 = 0) (k : Nat) : lastT s ts k + run (tA ts k - lastA ts k) (lastR ts k) = told s ts k := by
  unfold lastT lastA lastR
  cases k with
  | zero => rw [if_pos rfl, if_pos rfl, if_pos rfl, run_rateZero]; show s + 0 = s; omega
  | succ k => rw [if_neg (by omega), if_neg (by omega), if_neg (by omega)]; rfl
theorem told_in {s : Int} {ts : List (Int × Int)} (g : Good ts) (hs : -1152921504606846976 ≤ s ∧ s ≤ 1152921504606846976) {k : Nat} (hk : k < ts.length) : -1152921504606846976 ≤ told s ts k ∧ told s ts k ≤ 1225542048598196224 := by
  have h1 := told_bd (s := s) g k hk
  have h2 := g.nonneg hk
  have h3 := g.top k hk
  omega
theorem leg_call {s : Int} {ts : List (Int × Int)} (g : Good ts) (hs : -1152921504606846976 ≤ s ∧ s ≤ 1152921504606846976) {k : Nat} (hk : k < ts.length) :
    Ret 24 #[.agg #[.int .i64 (lastA ts k), .int .i64 (lastR ts k), .int .i64 (lastT s ts k)], .int .i64 (tA ts k)] (.int .i64 (told s ts k)) := by
  have h1 := told_in g hs hk
  have h2 := g.nonneg hk
  have h3 := g.top k hk
  have hl := last_told (s := s) g.first k
  have hd : 0 ≤ tA ts k - lastA ts k ∧ tA ts k - lastA ts k ≤ 1099511627776 := by
    unfold lastA
    cases k with
    | zero => rw [if_pos rfl]; omega
    | succ k =>
      rw [if_neg (by omega)]
      have := g.inc k hk
      have := g.nonneg (k := k) (by omega)
      show 0 ≤ tA ts (k + 1) - tA ts k ∧ tA ts (k + 1) - tA ts k ≤ _
      omega
  have hla : -9223372036854775808 ≤ lastA ts k ∧ 0 ≤ lastA ts k := by
    unfold lastA
    cases k with
    | zero => rw [if_pos rfl]; omega
    | succ k =>
      rw [if_neg (by omega)]
      have := g.nonneg (k := k) (by omega)
      show _ ≤ tA ts k ∧ 0 ≤ tA ts k
      omega
  have hr : 0 ≤ lastR ts k ∧ lastR ts k ≤ 2216203124736 := by
    unfold lastR
    cases k with
    | zero => rw [if_pos rfl]; omega
    | succ k =>
      rw [if_neg (by omega)]
      have := g.rate k (by omega)
      show 0 ≤ tR ts k ∧ tR ts k ≤ _
      omega
  refine legat_ret _ _ _ _ (tA ts k - lastA ts k) _ ?_ hd.1 hd.2 hr.1 hr.2 ?_
  · unfold wrap64; omega
  · rw [hl]; unfold wrap64; omega
def LegRel (w0 : World) (g6 : Nat) (s : Int) (ts : List (Int × Int)) (v kv : Value) (wr : World) : Prop :=
  ∃ k : Nat, k ≤ ts.length ∧ kv = .int .i64 (k : Int) ∧ OwnL w0 g6 wr v s ts k ∧ w0.heap.size ≤ g6 ∧ wr.heap[g6]? = some (.cells #[.int .i64 (lastA ts k), .int .i64 (lastR ts k), .int .i64 (lastT s ts k)] 57 (0, 0))

theorem own_alloc {w : World} {B e size n : Nat} {v : Value} {xs : List Value} (h : w.ownsRow B e size v n xs) (o : Obj) : (w.alloc o).ownsRow B e size v n xs := by
  refine ⟨h.1, ?_⟩
  rcases h.2 with h0 | ⟨g, cap, cur, e, h1, hg, h3⟩
  · exact .inl h0
  · refine .inr ⟨g, cap, cur, e, h1, (heap_alloc_old w o ?_).trans hg, h3⟩
    exact (h.lt g (by rw [e]; rfl)).2
theorem hnew (w : World) (a r y : Int) : ∀ j u, ([.int .i64 a, .int .i64 r, .int .i64 y] : List Value)[j]? = some u → (w.alloc (.cells #[.int .i64 a, .int .i64 r, .int .i64 y] 57)).cell? ((⟨w.heap.size, 0, none⟩ : Addr).add j) = some u := fun j u hu => by
  rw [show (⟨w.heap.size, 0, none⟩ : Addr).add j = ⟨w.heap.size, j, none⟩ by unfold Addr.add; split <;> simp_all, cell_of_row _ _ _ _ _ _ (heap_alloc_new w _)]
  rw [← hu]; simp
theorem hone3 (a r y : Int) : ∀ u ∈ ([.int .i64 a, .int .i64 r, .int .i64 y] : List Value), u.oneCell' = true := by
  intro u hu
  simp only [List.mem_cons, List.not_mem_nil, or_false] at hu
  obtain rfl | rfl | rfl := hu <;> rfl
def LegMid (w0 : World) (g6 : Nat) (s : Int) (ts : List (Int × Int)) (k g5 c5 : Nat) (a r y : Int) (wx : World) : Prop :=
  wx.ownsRow w0.heap.size 57 3 (.slice (some ⟨g5, 0, none⟩) k c5) k (lv s ts k) ∧ Below w0.heap.size w0 wx ∧ wx.heap[g6]? = some (.cells #[.int .i64 a, .int .i64 r, .int .i64 y] 57 (0, 0))
theorem bDrewOf {w w' : World} (h : Below w.drew.heap.size w.drew w') : Below w.heap.size w w' := ⟨h.os, h.tape, h.output, h.size, h.block⟩
theorem mid_go {w0 W0 w2 : World} {g6 : Nat} {s : Int} {ts : List (Int × Int)} {k g5 c5 : Nat} {a r y : Int} {x0 x1 x2 : Value} (hb : Below W0.drew.heap.size W0.drew w2) (hB : Below w0.heap.size w0 W0)
    (hown : W0.ownsRow w0.heap.size 57 3 (.slice (some ⟨g5, 0, none⟩) k c5) k (lv s ts k)) (hne : g5 ≠ g6) (h6 : w0.heap.size ≤ g6) (fr : w2.heap[g6]? = some (.cells #[x0, x1, x2] 57 (0, 0))) :
    LegMid w0 g6 s ts k g5 c5 a r y (((w2.setCell ⟨g6, 0, none⟩ (.int .i64 a)).setCell ⟨g6, 1, none⟩ (.int .i64 r)).setCell ⟨g6, 2, none⟩ (.int .i64 y)) := by
  have hB2 : Below w0.heap.size w0 w2 := hB.trans (bDrewOf hb |>.mono hB.size)
  refine ⟨⟨hown.1, ?_⟩, ((hB2.setCell h6 _).setCell h6 _).setCell h6 _, ?_⟩
  · rcases hown.2 with ⟨e, _⟩ | ⟨g, cap, cur, e, h1, hg, h3⟩
    · cases e
    · injection e with e1 e2 e3
      injection e1 with e1
      injection e1 with e1
      subst e1 e3
      refine .inr ⟨g5, c5, cur, rfl, h1, ?_, h3⟩
      rw [heap_setCell_other _ ⟨g6, 2, none⟩ g5 _ hne, heap_setCell_other _ ⟨g6, 1, none⟩ g5 _ hne, heap_setCell_other _ ⟨g6, 0, none⟩ g5 _ hne]
      have hlt := (hown.lt g5 rfl).2
      exact (hb.block g5 hlt).trans hg
  · exact heap_setCell_same _ g6 2 _ _ _ (heap_setCell_same _ g6 1 _ _ _ (heap_setCell_same _ g6 0 _ _ _ fr))
theorem leg_step {w0 wx w' : World} {g6 : Nat} {s : Int} {ts : List (Int × Int)} {k g5 c5 : Nat} {a r y : Int} {v' : Value} (m1 : wx.ownsRow w0.heap.size 57 3 (.slice (some ⟨g5, 0, none⟩) k c5) k (lv s ts k)) (m2 : Below w0.heap.size w0 wx)
    (m3 : wx.heap[g6]? = some (.cells #[.int .i64 a, .int .i64 r, .int .i64 y] 57 (0, 0))) (hne : g5 ≠ g6)
    (h1 : w'.ownsRow w0.heap.size 57 3 v' (k + 1) (lv s ts k ++ [.int .i64 a, .int .i64 r, .int .i64 y])) (h2 : (wx.alloc (.cells #[.int .i64 a, .int .i64 r, .int .i64 y] 57)).grownBy w' (Value.slice (some ⟨g5, 0, none⟩) k c5).ownBlock)
    (h4 : v'.ownBlock = (Value.slice (some ⟨g5, 0, none⟩) k c5).ownBlock ∨ v'.ownBlock = some (wx.alloc (.cells #[.int .i64 a, .int .i64 r, .int .i64 y] 57)).heap.size) (ha : a = tA ts k) (hr : r = tR ts k) (hy : y = told s ts k) :
    OwnL w0 g6 w' v' s ts (k + 1) ∧ w'.heap[g6]? = some (.cells #[.int .i64 (lastA ts (k + 1)), .int .i64 (lastR ts (k + 1)), .int .i64 (lastT s ts (k + 1))] 57 (0, 0)) := by
  have hlt6 : g6 < wx.heap.size := by
    rcases Nat.lt_or_ge g6 wx.heap.size with h | h
    · exact h
    · rw [Array.getElem?_eq_none h] at m3; cases m3
  have ml := m1.lt
  subst ha hr hy
  refine ⟨⟨by rw [lv_succ]; exact h1, (bAl m2 _).grown h2 (by have := m2.size; simp; omega) (fun j hj => (ml j hj).1), ?_⟩, ?_⟩
  · rcases h1.2 with ⟨rfl, h0⟩ | ⟨g, cap, cur, rfl, _⟩
    · omega
    · refine ⟨g, cap, rfl, ?_⟩
      rcases h4 with h4 | h4
      · simp [Value.ownBlock] at h4; omega
      · simp [Value.ownBlock] at h4; omega
  · rw [show lastA ts (k + 1) = tA ts k by unfold lastA; rw [if_neg (by omega)]; rfl, show lastR ts (k + 1) = tR ts k by unfold lastR; rw [if_neg (by omega)]; rfl, show lastT s ts (k + 1) = told s ts k by unfold lastT; rw [if_neg (by omega)]; rfl]
    rw [h2.block g6 (by simp; omega) (by simp [Value.ownBlock]; omega), heap_alloc_old wx _ hlt6]
    exact m3
set_option maxRecDepth 20000 in
set_option maxHeartbeats 1000000 in
theorem legs_some (b o c : Nat) (s : Int) (ts : List (Int × Int)) (w : World) (hg : Good ts) (hs : -1152921504606846976 ≤ s ∧ s ≤ 1152921504606846976) (hr : RdT w b o ts) :
    Calls Try.prog 21 #[.int .i64 s, .slice (some ⟨b, o, none⟩) ts.length c] w fun e w' => ∃ v g6, e = .returned v ∧ OwnL w g6 w' v s ts ts.length := by
  obtain ⟨n, hn⟩ : ∃ n, n = ts.length := ⟨_, rfl⟩
  have hl := hg.len
  have h0 := hg.pos
  rw [← hn] at hl h0 ⊢
  have Hn := Lib.hid hn
  have Hr := Lib.hid hr
  have Hg := Lib.hid hg
  have Hs := Lib.hid hs
  clear hn hr hg hs
  obtain ⟨i0, hi, hz0, hz1, hz2⟩ := info_parts Try.infoL
  obtain ⟨w1, hmk, hown, hgr⟩ := run_make_own (P := Try.prog) w w.heap.size 51 57 i0 _ 3 Try.underlying51 hi hz0 hz1 .i64 .i64 n (by rw [hz2]; omega) (by unfold maxLen; omega) (Nat.le_refl _)
  have HB1 := Lib.hid ((bRef w).grown hgr (Nat.le_refl _) (fun k hk => by cases hk))
  have hlt : w.heap.size < w1.heap.size := (hown.lt w.heap.size rfl).2
  have HO1 := Lib.hid hown
  have Hlt := Lib.hid hlt
  clear hown hgr hlt
  have HIi := Lib.hid hi
  have HZ0 := Lib.hid hz0
  have HZ1 := Lib.hid hz1
  have HZ2 := Lib.hid hz2
  clear hi hz0 hz1 hz2
  go_enter Try.func21, Try.ntmps21
  go_wp2_with fail
  clear hmk
  go_loopw [5, 16] (fun v kv wr => LegRel w w1.heap.size s ts v kv wr) (fun _ kv _ => n - (intOf kv).toNat)
  case atStart => exact ⟨0, by omega, rfl, ⟨own_alloc HO1.out _, bAl HB1.out _, ⟨w.heap.size, n, rfl, by have := Hlt.out; omega⟩⟩, HB1.out.size, heap_alloc_new w1 _⟩
  case round =>
    obtain ⟨k, hk, rfl, ⟨hown, hb, g5, c5, rfl, hne⟩, hg6, hbox⟩ := hrel
    rw [← Hn.out] at hk
    have HO := Lib.hid hown
    have HB := Lib.hid hb
    have HBOX := Lib.hid hbox
    have HNE := Lib.hid hne
    clear hown hb hbox hne
    have hlt6 : w1.heap.size < wr.heap.size := by
      rcases Nat.lt_or_ge w1.heap.size wr.heap.size with h | h
      · exact h
      · have := HBOX.out; rw [Array.getElem?_eq_none h] at this; cases this
    rcases Nat.lt_or_ge k n with g | g
    · have hd : decide ((k : Int) < (n : Int)) = true := decide_eq_true (by omega)
      have hgk := Hg.out.rate k (by rw [← Hn.out]; exact g)
      obtain ⟨c1, c2⟩ := (Hr.out.below HB.out).2 k (by rw [← Hn.out]; exact g)
      have c3 : wr.cell? ⟨w1.heap.size, 0, none⟩ = some (.int .i64 (lastA ts k)) := cell_of_row _ _ _ _ _ _ HBOX.out
      have c4 : wr.cell? ⟨w1.heap.size, 1, none⟩ = some (.int .i64 (lastR ts k)) := cell_of_row _ _ _ _ _ _ HBOX.out
      have c5' : wr.cell? ⟨w1.heap.size, 2, none⟩ = some (.int .i64 (lastT s ts k)) := cell_of_row _ _ _ _ _ _ HBOX.out
      obtain ⟨a, ha⟩ : ∃ a, a = tA ts k := ⟨_, rfl⟩
      obtain ⟨r, hr⟩ : ∃ r, r = tR ts k := ⟨_, rfl⟩
      obtain ⟨la, hla⟩ : ∃ a, a = lastA ts k := ⟨_, rfl⟩
      obtain ⟨lr, hlr⟩ : ∃ r, r = lastR ts k := ⟨_, rfl⟩
      obtain ⟨lt, hlt⟩ : ∃ r, r = lastT s ts k := ⟨_, rfl⟩
      obtain ⟨y, hy⟩ : ∃ y, y = told s ts k := ⟨_, rfl⟩
      have HL : Ret 24 #[.agg #[.int .i64 la, .int .i64 lr, .int .i64 lt], .int .i64 a] (.int .i64 y) := by
        rw [hla, hlr, hlt, ha, hy]; exact leg_call Hg.out Hs.out (by rw [← Hn.out]; exact g)
      rw [← ha] at c1
      rw [← hr] at c2
      rw [← hla] at c3
      rw [← hlr] at c4
      rw [← hlt] at c5'
      have HA := Lib.hid ha
      have HRR := Lib.hid hr
      have HY := Lib.hid hy
      have HLA := Lib.hid hla
      have HLR := Lib.hid hlr
      have HLT := Lib.hid hlt
      clear ha hr hla hlr hlt hy
      go_upto_region 6 with fail
      obtain ⟨W0, hW0⟩ : ∃ W0, W0 = wr.alloc (.cells #[.int .i64 a, .int .i64 r] 32) := ⟨_, rfl⟩
      rw [← hW0]
      have hs0 : W0.heap.size = wr.heap.size + 1 := by rw [hW0]; simp
      have HS0 := Lib.hid hs0
      have e1 : W0.cell? ⟨wr.heap.size, 0, none⟩ = some (.int .i64 a) := by rw [hW0]; exact cell_of_row _ _ _ _ _ _ (heap_alloc_new wr _)
      have e2 : W0.cell? ⟨wr.heap.size, 1, none⟩ = some (.int .i64 r) := by rw [hW0]; exact cell_of_row _ _ _ _ _ _ (heap_alloc_new wr _)
      have hbox0 : W0.heap[w1.heap.size]? = some (.cells #[.int .i64 la, .int .i64 lr, .int .i64 lt] 57 (0, 0)) := by rw [hW0, HLA.out, HLR.out, HLT.out]; exact (heap_alloc_old wr _ hlt6).trans HBOX.out
      have HB0 := Lib.hid hbox0
      have HBW : Hid (Below w.heap.size w W0) := Lib.hid (by rw [hW0]; exact bAl HB.out _)
      have HO0 : Hid (W0.ownsRow w.heap.size 57 3 (.slice (some ⟨g5, 0, none⟩) k c5) k (lv s ts k)) := Lib.hid (by rw [hW0]; exact own_alloc HO.out _)
      have e3 : W0.cell? ⟨w1.heap.size, 0, none⟩ = some (.int .i64 la) := cell_of_row _ _ _ _ _ _ hbox0
      have e4 : W0.cell? ⟨w1.heap.size, 1, none⟩ = some (.int .i64 lr) := cell_of_row _ _ _ _ _ _ hbox0
      have e5 : W0.cell? ⟨w1.heap.size, 2, none⟩ = some (.int .i64 lt) := cell_of_row _ _ _ _ _ _ hbox0
      have Hlt6 := Lib.hid hlt6
      clear hW0 hs0 hbox0 hlt6 c1 c2 c3 c4 c5'
      go_cut [] (fun wx => LegMid w w1.heap.size s ts k g5 c5 a r y wx)
      case first =>
        go_region_with (go_at_call 24; (with_reducible refine (HL.go _).mono ?_); rintro e w2 ⟨rfl, hb⟩; have x1 : w2.cell? ⟨wr.heap.size, 0, none⟩ = some (.int .i64 a) := (hb.cell (by have := HS0.out; show wr.heap.size < W0.heap.size; omega)).trans e1; have x2 : w2.cell? ⟨wr.heap.size, 1, none⟩ = some (.int .i64 r) := (hb.cell (by have := HS0.out; show wr.heap.size < W0.heap.size; omega)).trans e2; have fr : w2.heap[w1.heap.size]? = some (.cells #[.int .i64 la, .int .i64 lr, .int .i64 lt] 57 (0, 0)) := (hb.block _ (by have := HS0.out; have := Hlt6.out; show w1.heap.size < W0.heap.size; omega)).trans HB0.out; have x3 : w2.cell? ⟨w1.heap.size, 0, none⟩ = some (.int .i64 la) := cell_of_row _ _ _ _ _ _ fr; have x4 : w2.cell? ⟨w1.heap.size, 1, none⟩ = some (.int .i64 lr) := cell_of_row _ _ _ _ _ _ fr; have x5 : w2.cell? ⟨w1.heap.size, 2, none⟩ = some (.int .i64 lt) := cell_of_row _ _ _ _ _ _ fr; have f1 := frozen_of_row w2 w1.heap.size 0 _ _ fr; have f2 := frozen_of_row w2 w1.heap.size 1 _ _ fr; have f3 := frozen_of_row w2 w1.heap.size 2 _ _ fr; have FR := Lib.hid fr; have HB2 := Lib.hid hb; clear fr hb)
        all_goals (go_wp2_with fail; go_meet; exact mid_go HB2.out HBW.out HO0.out HNE.out hg6 FR.out)
      case rest =>
        obtain ⟨m1, m2, m3⟩ := hcut
        have M1 := Lib.hid m1
        have M2 := Lib.hid m2
        have M3 := Lib.hid m3
        have y1 : wc.cell? ⟨w1.heap.size, 0, none⟩ = some (.int .i64 a) := cell_of_row _ _ _ _ _ _ m3
        have y2 : wc.cell? ⟨w1.heap.size, 1, none⟩ = some (.int .i64 r) := cell_of_row _ _ _ _ _ _ m3
        have y3 : wc.cell? ⟨w1.heap.size, 2, none⟩ = some (.int .i64 y) := cell_of_row _ _ _ _ _ _ m3
        clear m1 m2 m3 e1 e2 e3 e4 e5
        go_wp2_with (at_builtin; refine wpList_append_own_at _ rfl _ _ 51 rfl w.heap.size 57 i0 _ 3 24 Try.underlying51 HIi.out HZ0.out HZ1.out HZ2.out rfl (by decide) (.slice (some ⟨g5, 0, none⟩) k c5) k (lv s ts k) rfl (own_alloc M1.out _) ⟨wc.heap.size, 0, none⟩ 1 1 [.int .i64 a, .int .i64 r, .int .i64 y] rfl rfl (hnew wc a r y) (hone3 a r y) (by unfold maxLen; omega) (by omega) (by have := M2.out.size; simp; omega) ?_; intro v' w' h1 h2 _ h4; have HF := Lib.hid (leg_step M1.out M2.out M3.out HNE.out h1 h2 h4 HA.out HRR.out HY.out); clear h1 h2 h4)
        exact ⟨⟨k + 1, by rw [← Hn.out]; omega, by go_num, HF.out.1, HB1.out.size, HF.out.2⟩, by simp [intOf]; omega⟩
    · obtain rfl : k = n := by omega
      have hd : decide ((k : Int) < (k : Int)) = false := decide_eq_false (by omega)
      go_wp2_with fail
      go_ret
      exact ⟨_, w1.heap.size, rfl, ⟨HO.out, HB.out, ⟨g5, c5, rfl, HNE.out⟩⟩⟩

end Go.Proofs.Ytffjbngelapmmaa
