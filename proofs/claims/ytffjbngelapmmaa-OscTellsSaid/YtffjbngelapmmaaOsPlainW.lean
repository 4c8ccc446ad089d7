/- The law's clock for the reference: the walk. -/
import Derived.Test.YtffjbngelapmmaaOsPlain
import Derived.Laws.ResultCell
namespace Go.Proofs.Ytffjbngelapmmaa
open Go.RowKit Go.Joins

theorem row_form {W : World} {B e sz n : Nat} {v : Value} {xs : List Value} (h : W.ownsRow B e sz v n xs) : ∃ p m c, v = .slice p m c := by
  rcases h.2 with ⟨rfl, _⟩ | ⟨g, cap, cur, rfl, _⟩
  · exact ⟨_, _, _, rfl⟩
  · exact ⟨_, _, _, rfl⟩
theorem four_of {z : Array Value} (h : z.size = 4) : ∃ z0 z1 z2 z3, z = #[z0, z1, z2, z3] := by
  rcases z with ⟨l⟩
  match l, h with
  | [a, b, c, d], _ => exact ⟨a, b, c, d, rfl⟩
theorem bodyPlain {R : Ending → World → Prop} {a : Act} {w : World} {g : Nat} {c0 c1 c2 c3 : Value} {fr : Nat × Nat} (hp : a.tmps.getD 6 undef = .pointer (some ⟨g, 0, none⟩)) (hg : w.heap[g]? = some (.cells #[c0, c1, c2, c3] 34 fr)) (hd : a.defers = [])
    (hR : R (.returned (.agg #[c0, c1, c2, c3])) w) : bodyPost Try.prog Try.f10 R .ret a w := by
  refine bodyPost_ret (v := .agg #[c0, c1, c2, c3]) ?_ hd hR
  have h := run_loadVar_row w g 34 34 #[c0, c1, c2, c3] fr _ hg Try.underlying34 rfl (by kernel_rfl)
  have hp' : a.tmps[6]?.getD undef = .pointer (some ⟨g, 0, none⟩) := by simpa using hp
  simp [results, Try.results10, hp', asAddr, h]
theorem pl_off {w wr : World} (x0 x1 x2 x3 : Value) : ∀ k, k ≠ w.heap.size → ((((wr.setCell ⟨w.heap.size, 0, none⟩ x0).setCell ⟨w.heap.size, 1, none⟩ x1).setCell ⟨w.heap.size, 2, none⟩ x2).setCell ⟨w.heap.size, 3, none⟩ x3).heap[k]? = wr.heap[k]? := fun k hk => by
  rw [heap_setCell_other _ _ k _ hk, heap_setCell_other _ _ k _ hk, heap_setCell_other _ _ k _ hk, heap_setCell_other _ _ k _ hk]
theorem pl_bel {w wr : World} (x0 x1 x2 x3 : Value) : Below w.heap.size wr ((((wr.setCell ⟨w.heap.size, 0, none⟩ x0).setCell ⟨w.heap.size, 1, none⟩ x1).setCell ⟨w.heap.size, 2, none⟩ x2).setCell ⟨w.heap.size, 3, none⟩ x3) :=
  ⟨rfl, rfl, rfl, by simp, fun k hk => pl_off x0 x1 x2 x3 k (by omega)⟩
theorem pl_arg {w W W' : World} {v : Value} {us : List Int} (h : W.ownsRow (w.heap.size + 2) 3 1 v us.length (iv us)) (ho : ∀ k, k ≠ w.heap.size → W'.heap[k]? = W.heap[k]?) : IArg W' v us :=
  row_arg (row_keep h fun k hk => ho k (by have := (row_lt h hk).1; omega))
def PlRel (w : World) (s g : Int) (ts : List (Int × Int)) (kv : Value) (wr : World) : Prop :=
  ∃ k : Nat, k ≤ ts.length ∧ kv = .int .i64 (k : Int) ∧ ∃ va vr, PS w wr s g va vr va ((iA ts).take k) vr ((iR ts).take k)
theorem pl_first (w : World) (s g : Int) (z : Array Value) (hz : z.size = 4) : PS w ((w.alloc (.cells z 34)).alloc (.cells #[.int .i64 s, .int .i64 g, .slice none 0 0, .slice none 0 0] 34)) s g (.slice none 0 0) (.slice none 0 0) (.slice none 0 0) [] (.slice none 0 0) [] := by
  have h1 := heap_alloc_new (w.alloc (.cells z 34)) (.cells #[.int .i64 s, .int .i64 g, .slice none 0 0, .slice none 0 0] 34)
  have h2 := (heap_alloc_old (w.alloc (.cells z 34)) (.cells #[.int .i64 s, .int .i64 g, .slice none 0 0, .slice none 0 0] 34) (r := w.heap.size) (by simp)).trans (heap_alloc_new w _)
  refine ⟨⟨rfl, .inl ⟨rfl, rfl⟩⟩, ⟨rfl, .inl ⟨rfl, rfl⟩⟩, fun k h => by simp [Value.ownBlock] at h, bAl (bAl (bRef w) _) _, by simp, ?_, z, h2, hz⟩
  simpa using h1
theorem take_one {xs : List Int} {k : Nat} (h : k < xs.length) : xs.take (k + 1) = xs.take k ++ [xs.getD k 0] := by
  rw [List.take_succ_eq_append_getElem h]; simp [List.getD_eq_getElem?_getD, h]
theorem hnewA (wr : World) (o1 : Obj) (x : Int) : ∀ j u, ([.int .i64 x] : List Value)[j]? = some u → ((wr.alloc o1).alloc (.cells #[.int .i64 x] 3)).cell? ((⟨wr.heap.size + 1, 0, none⟩ : Addr).add j) = some u := fun j u hu => by
  have hg := heap_alloc_new (wr.alloc o1) (.cells #[.int .i64 x] 3)
  rw [show (wr.alloc o1).heap.size = wr.heap.size + 1 by simp] at hg
  match j with
  | 0 => simp at hu; subst hu; exact cell_of_row _ _ _ _ _ _ hg
  | j + 1 => simp at hu
theorem hnewB (w1 : World) (p : Addr) (v : Value) (x : Int) : ∀ j u, ([.int .i64 x] : List Value)[j]? = some u → ((w1.setCell p v).alloc (.cells #[.int .i64 x] 3)).cell? ((⟨w1.heap.size, 0, none⟩ : Addr).add j) = some u := fun j u hu => by
  have hg := heap_alloc_new (w1.setCell p v) (.cells #[.int .i64 x] 3)
  rw [show (w1.setCell p v).heap.size = w1.heap.size by simp] at hg
  match j with
  | 0 => simp at hu; subst hu; exact cell_of_row _ _ _ _ _ _ hg
  | j + 1 => simp at hu
theorem honeI (x : Int) : ∀ u ∈ ([.int .i64 x] : List Value), u.oneCell' = true := by
  intro u hu
  simp at hu
  subst hu
  rfl
theorem pl_mid {w wr w1 : World} {s g : Int} {va vr v1 : Value} {ua ur : List Int} {ta tr : Int} (hS : PS w wr s g va vr va ua vr ur)
    (h1 : w1.ownsRow (w.heap.size + 2) 3 1 v1 (ua.length + 1) (iv ua ++ [.int .i64 ta])) (hg : ((wr.alloc (.cells #[.int .i64 ta, .int .i64 tr] 32)).alloc (.cells #[.int .i64 ta] 3)).grownBy w1 va.ownBlock)
    (ha : v1.ownBlock = va.ownBlock ∨ v1.ownBlock = some ((wr.alloc (.cells #[.int .i64 ta, .int .i64 tr] 32)).alloc (.cells #[.int .i64 ta] 3)).heap.size) :
    PS w w1 s g va vr v1 (ua ++ [ta]) vr ur ∧ w1.cell? ⟨wr.heap.size, 1, none⟩ = some (.int .i64 tr) ∧ (w1.setCell ⟨w.heap.size + 1, 2, none⟩ v1).cell? ⟨wr.heap.size, 1, none⟩ = some (.int .i64 tr) := by
  have hS1 := (hS.below (bAl (bRef wr) (.cells #[.int .i64 ta, .int .i64 tr] 32))).below (bAl (bRef _) (.cells #[.int .i64 ta] 3))
  obtain ⟨S2, hk, hsz⟩ := hS1.app h1 hg ha
  have hB := hS.2.2.2.2.1
  have hh := hk wr.heap.size (by simp; omega) (fun e => by have := (row_lt hS.1 e).2; omega)
  have h0 := (heap_alloc_old (wr.alloc (.cells #[.int .i64 ta, .int .i64 tr] 32)) (.cells #[.int .i64 ta] 3) (r := wr.heap.size) (by simp)).trans (heap_alloc_new wr _)
  have hr := hh.trans h0
  exact ⟨S2, cell_of_row _ _ _ _ _ _ hr, cell_of_row _ _ _ _ _ _ (((S2.set 2 v1).2 wr.heap.size (by omega)).trans hr)⟩
set_option maxRecDepth 20000 in
set_option maxHeartbeats 4000000 in
theorem plain_any {v : Value} {s g : Int} {ts : List (Int × Int)} {w : World} (h : TArg w v ts) (hl : ts.length ≤ 1000) :
    Calls Try.prog 10 #[.int .i64 s, .int .i64 g, v] w fun e w' => ∃ va vr, e = .returned (.agg #[.int .i64 s, .int .i64 g, va, vr]) ∧ RClk w' va vr ts ∧ Below w.heap.size w w' := by
  obtain ⟨p, c, hv⟩ := h.slice
  have hp : 0 < ts.length → ∃ b o, p = some ⟨b, o, none⟩ ∧ RdT w b o ts := by
    intro h0
    rcases h.2 with ⟨e, _⟩ | ⟨_, b, o, c', e, _, hr⟩
    · rw [e] at h0; simp at h0
    · rw [e] at hv; injection hv with e1 e2 e3
      exact ⟨b, o, e1.symm, hr⟩
  subst hv
  obtain ⟨n, hn⟩ : ∃ n, ts.length = n := ⟨_, rfl⟩
  have HN := Lib.hid hn
  have HP := Lib.hid hp
  have la : (iA ts).length = ts.length := by simp [iA]
  have lr : (iR ts).length = ts.length := by simp [iR]
  rw [hn] at hl ⊢
  have HLA := Lib.hid (la.trans hn)
  have HLR := Lib.hid (lr.trans hn)
  clear h hn hp la lr
  have HF := Lib.hid (pl_first w s g #[.int .i64 0, .int .i64 0, .slice none 0 0, .slice none 0 0] rfl)
  obtain ⟨i0, hi, hz0, hz1, hz2⟩ := info_parts Try.infoInt
  have HIi := Lib.hid hi
  have HZ0 := Lib.hid hz0
  have HZ1 := Lib.hid hz1
  have HZ2 := Lib.hid hz2
  clear hi hz0 hz1 hz2
  go_enter Try.func10, Try.ntmps10
  go_wp2_with fail
  go_loopw [15] (fun kv wr => PlRel w s g ts kv wr) (fun kv _ => n - (intOf kv).toNat)
  case atStart => exact ⟨0, by omega, rfl, _, _, HF.out⟩
  case round =>
    clear HF
    obtain ⟨k, hk, rfl, va, vr, hS⟩ := hrel
    rw [HN.out] at hk
    rcases Nat.lt_or_ge k n with hlt | hge
    · have hkl : k < ts.length := by rw [HN.out]; exact hlt
      have hd : decide ((k : Int) < (n : Int)) = true := decide_eq_true (by omega)
      obtain ⟨bt, ot, rfl, hR⟩ := HP.out (by omega)
      have hcell := (hR.below hS.2.2.2.1).2 k hkl
      obtain ⟨e1, e2⟩ := hcell
      obtain ⟨-, -, c2, c3, f2, f3⟩ := hS.cells
      have hta := take_one (xs := iA ts) (k := k) (by rw [HLA.out]; exact hlt)
      have htr := take_one (xs := iR ts) (k := k) (by rw [HLR.out]; exact hlt)
      rw [iA_at hkl] at hta
      rw [iR_at hkl] at htr
      have hla : ((iA ts).take k).length = k := by rw [List.length_take, HLA.out]; omega
      have hlr : ((iR ts).take k).length = k := by rw [List.length_take, HLR.out]; omega
      generalize tA ts k = ta at *
      generalize tR ts k = tr at *
      generalize (iA ts).take k = ua at *
      generalize (iR ts).take k = ur at *
      have HTA := Lib.hid hta
      have HTR := Lib.hid htr
      have HUA := Lib.hid hla
      have HUR := Lib.hid hlr
      have HS := Lib.hid hS
      have two : ∀ x y : Value, (wr.alloc (.cells #[x, y] 32)).cell? ⟨wr.heap.size, 0, none⟩ = some x ∧ (wr.alloc (.cells #[x, y] 32)).cell? ⟨wr.heap.size, 1, none⟩ = some y := fun x y => ⟨cell_of_row _ _ _ _ _ _ (heap_alloc_new wr _), cell_of_row _ _ _ _ _ _ (heap_alloc_new wr _)⟩
      have q2 : ∀ o, (wr.alloc o).cell? ⟨w.heap.size + 1, 2, none⟩ = some va := fun o => (hS.below (bAl (bRef wr) o)).cells.2.2.1
      clear hta htr hla hlr hS hR
      have HB := Lib.hid (HS.out.2.2.2.2.1)
      go_wp2_with (first
        | (at_builtin; refine wpList_append_own_at _ rfl _ _ 24 rfl (w.heap.size + 2) 3 i0 _ 1 8 Try.underlying24 HIi.out HZ0.out HZ1.out HZ2.out rfl (by decide) va ua.length (iv ua) rfl ((HS.out.below (bAl (bRef wr) _)).below (bAl (bRef _) _)).1 ⟨wr.heap.size + 1, 0, none⟩ 1 1 [.int .i64 ta] rfl rfl (hnewA wr _ ta) (honeI ta) (by rw [HUA.out]; unfold maxLen; omega) (by rw [HUA.out]; omega) (by have := HB.out; simp; omega) ?_; intro v1 w1 h1 h2 _ h4; obtain ⟨p1, n1, k1, rfl⟩ := row_form h1; have HM := Lib.hid (pl_mid HS.out h1 h2 h4); clear h1 h2 h4; obtain ⟨-, -, d2, d3, ff2, ff3⟩ := HM.out.1.cells; have dt := HM.out.2.1; have dt2 := HM.out.2.2; have d5 := (HM.out.1.set2 (.slice p1 n1 k1)).cells.2.2.2.1; have hne1 : ¬ wr.heap.size = w.heap.size + 1 := (by have := HB.out; omega); have HS3 := Lib.hid (HM.out.1.set2 (.slice p1 n1 k1)).swap)
        | (at_builtin; refine wpList_append_own_at _ rfl _ _ 24 rfl (w.heap.size + 2) 3 i0 _ 1 8 Try.underlying24 HIi.out HZ0.out HZ1.out HZ2.out rfl (by decide) vr ur.length (iv ur) rfl (HS3.out.below (bAl (bRef _) _)).1 ⟨w1.heap.size, 0, none⟩ 1 1 [.int .i64 tr] rfl rfl (hnewB w1 _ _ tr) (honeI tr) (by rw [HUR.out]; unfold maxLen; omega) (by rw [HUR.out]; omega) (by have := (HS3.out.below (bAl (bRef _) (.cells #[.int .i64 tr] 3))).2.2.2.2.1; exact this) ?_; intro v2 w2 h1 h2 _ h4; obtain ⟨p2, n2, k2, rfl⟩ := row_form h1; have HS4 := Lib.hid ((HS3.out.below (bAl (bRef _) _)).app h1 h2 h4).1.swap; clear h1 h2 h4; obtain ⟨-, -, g2, g3, gg2, gg3⟩ := HS4.out.cells))
      go_roundw
      case rel => exact ⟨k + 1, by rw [HN.out]; omega, by go_num, _, _, by rw [HTA.out, HTR.out]; exact HS4.out.set3 _⟩
      case measure => simp [intOf]; omega
    · obtain rfl : k = n := by omega
      have hd : decide ((k : Int) < (k : Int)) = false := decide_eq_false (by omega)
      rw [List.take_of_length_le (by rw [HLA.out]; omega), List.take_of_length_le (by rw [HLR.out]; omega)] at hS
      obtain ⟨c0, c1, c2, c3, -, -⟩ := hS.cells
      obtain ⟨c4, hc4, hz4⟩ := hS.2.2.2.2.2.2
      obtain ⟨z0, z1, z2, z3, rfl⟩ := four_of hz4
      have r0 : wr.cell? ⟨w.heap.size, 0, none⟩ = some z0 := cell_of_row _ _ _ _ _ _ hc4
      have r1 : wr.cell? ⟨w.heap.size, 1, none⟩ = some z1 := cell_of_row _ _ _ _ _ _ hc4
      have r2 : wr.cell? ⟨w.heap.size, 2, none⟩ = some z2 := cell_of_row _ _ _ _ _ _ hc4
      have r3 : wr.cell? ⟨w.heap.size, 3, none⟩ = some z3 := cell_of_row _ _ _ _ _ _ hc4
      have y0 := frozen_of_row wr _ 0 _ _ hc4
      have y1 := frozen_of_row wr _ 1 _ _ hc4
      have y2 := frozen_of_row wr _ 2 _ _ hc4
      have y3 := frozen_of_row wr _ 3 _ _ hc4
      have HC4 := Lib.hid hc4
      clear hc4 hz4
      obtain ⟨pa, na, ka, rfl⟩ := row_form hS.1
      obtain ⟨pr, nr, kr, rfl⟩ := row_form hS.2.1
      have HS := Lib.hid hS
      clear hS
      go_wp2_with fail
      refine bodyPlain rfl (heap_setCell_same _ _ 3 _ _ _ (heap_setCell_same _ _ 2 _ _ _ (heap_setCell_same _ _ 1 _ _ _ (heap_setCell_same _ _ 0 _ _ _ HC4.out)))) rfl ⟨_, _, rfl, ?_, ?_⟩
      · exact ⟨pl_arg HS.out.1 (pl_off (w := w) (wr := wr) _ _ _ _), pl_arg HS.out.2.1 (pl_off (w := w) (wr := wr) _ _ _ _)⟩
      · exact HS.out.2.2.2.1.trans (pl_bel _ _ _ _)

end Go.Proofs.Ytffjbngelapmmaa
