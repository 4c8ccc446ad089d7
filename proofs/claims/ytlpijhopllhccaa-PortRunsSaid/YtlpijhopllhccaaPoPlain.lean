/- The law's list for the reference: the walk. -/
import Derived.Test.YtlpijhopllhccaaPoLaw
namespace Go.Proofs.Ytlpijhopllhccaa
open Go.RowKit Go.Joins

theorem Try.infoPc : (Try.prog.info? 87).map (fun i => (i.zero, i.size, i.bytes)) = some (some (.agg #[.int .i64 0, .int .i64 0, .int .i64 0]), 3, 24) := by kernel_rfl

theorem bodyPlain {R : Ending → World → Prop} {a : Act} {w : World} {g : Nat} {c0 c1 c2 : Value} {fr : Nat × Nat} (hp : a.tmps.getD 2 undef = .pointer (some ⟨g, 0, none⟩)) (hg : w.heap[g]? = some (.cells #[c0, c1, c2] 52 fr)) (hd : a.defers = [])
    (hR : R (.returned (.agg #[c0, c1, c2])) w) : bodyPost Try.prog Try.f21 R .ret a w := by
  refine bodyPost_ret (v := .agg #[c0, c1, c2]) ?_ hd hR
  have h := run_loadVar_row w g 52 52 #[c0, c1, c2] fr _ hg Try.underlying52 rfl (by kernel_rfl)
  have hp' : a.tmps[2]?.getD undef = .pointer (some ⟨g, 0, none⟩) := by simpa using hp
  simp [results, Try.results21, hp', asAddr, h]
def PlRel (w : World) (b c : Int) (sl : Value) (ts : List (Int × Int)) (kv : Value) (wr : World) : Prop :=
  ∃ k : Nat, k ≤ ts.length ∧ kv = .int .i64 (k : Int) ∧ ∃ va, PG w wr b c sl va va ts k
theorem hnew2 (W : World) (x y : Value) (t : TypeId) (n : Nat) (hn : n = W.heap.size) : ∀ j u, ([x, y] : List Value)[j]? = some u → (W.alloc (.cells #[x, y] t)).cell? ((⟨n, 0, none⟩ : Addr).add j) = some u := fun j u hu => by
  subst hn
  match j with
  | 0 => simp at hu; subst hu; simp [Addr.add]
  | 1 => simp at hu; subst hu; simp [Addr.add]
  | j + 2 => simp at hu
theorem hone2 (x y : Int) : ∀ u ∈ ([.int .i64 x, .int .i64 y] : List Value), u.oneCell' = true := by
  intro u hu
  simp at hu
  rcases hu with rfl | rfl <;> rfl
theorem pl_off {n : Nat} {wr : World} (x0 x1 x2 : Value) : ∀ k, k ≠ n → (((wr.setCell ⟨n, 0, none⟩ x0).setCell ⟨n, 1, none⟩ x1).setCell ⟨n, 2, none⟩ x2).heap[k]? = wr.heap[k]? := fun k hk => by
  rw [heap_setCell_other _ _ k _ hk, heap_setCell_other _ _ k _ hk, heap_setCell_other _ _ k _ hk]
theorem pl_bel {w wr : World} (x0 x1 x2 : Value) : Below w.heap.size wr (((wr.setCell ⟨w.heap.size + 1, 0, none⟩ x0).setCell ⟨w.heap.size + 1, 1, none⟩ x1).setCell ⟨w.heap.size + 1, 2, none⟩ x2) :=
  ⟨rfl, rfl, rfl, by simp, fun k hk => pl_off x0 x1 x2 k (by omega)⟩
set_option maxHeartbeats 4000000 in
theorem plain_any {sl : Value} {b c : Int} {ts : List (Int × Int)} {w : World} (h : TArg w sl ts) (hl : ts.length ≤ 1000) :
    Calls Try.prog 21 #[LV b c sl] w fun e w' => ∃ sl', e = .returned (LV b c sl') ∧ TArg w' sl' ts ∧ Below w.heap.size w w' := by
  obtain ⟨p, cc, hv⟩ := h.slice
  have hp : 0 < ts.length → ∃ b o, p = some ⟨b, o, none⟩ ∧ RdT w b o ts := by
    intro h0
    rcases h.2 with ⟨e, _⟩ | ⟨_, b, o, c', e, _, hr⟩
    · rw [e] at h0; simp at h0
    · rw [e] at hv; injection hv with e1 e2 e3
      exact ⟨b, o, e1.symm, hr⟩
  have HI := Lib.hid h.1
  subst hv
  obtain ⟨n, hn⟩ : ∃ n, ts.length = n := ⟨_, rfl⟩
  have HN := Lib.hid hn
  have HP := Lib.hid hp
  rw [hn] at hl ⊢
  clear h hn hp
  have HF := Lib.hid (pg_first w b c (.slice p n cc) ts)
  obtain ⟨i0, hi, hz0, hz1, hz2⟩ := info_parts Try.infoRS
  have HIi := Lib.hid hi
  have HZ0 := Lib.hid hz0
  have HZ1 := Lib.hid hz1
  have HZ2 := Lib.hid hz2
  obtain ⟨l0, l1, l2⟩ := (LB.new w b c (.slice p n cc)).cells
  clear hi hz0 hz1 hz2
  go_enter Try.func21, Try.ntmps21
  go_wp2_with fail
  go_loopw [14] (fun kv wr => PlRel w b c (.slice p n cc) ts kv wr) (fun kv _ => n - (intOf kv).toNat)
  case atStart => exact ⟨0, by omega, rfl, _, HF.out⟩
  case round =>
    clear HF l0 l1 l2
    obtain ⟨k, hk, rfl, va, hS⟩ := hrel
    rw [HN.out] at hk
    rcases Nat.lt_or_ge k n with hlt | hge
    · have hkl : k < ts.length := by rw [HN.out]; exact hlt
      have hd : decide ((k : Int) < (n : Int)) = true := decide_eq_true (by omega)
      obtain ⟨bt, ot, rfl, hR⟩ := HP.out (by omega)
      obtain ⟨e1, e2⟩ := (hR.below hS.bel).2 k hkl
      have HAPP := Lib.hid (fun W' W'' v' (hb : PG w W' b c (.slice (some ⟨bt, ot, none⟩) n cc) va va ts k) h1 hg => PG.app (W := W') (W' := W'') (v' := v') hb h1 hg)
      obtain ⟨q0, q1, q2, qf⟩ := (hS.below (bAl (bRef wr) (.cells #[.int .i64 (tA ts k), .int .i64 (tR ts k)] 64))).cells
      have two := two_cells wr (.int .i64 (tA ts k)) (.int .i64 (tR ts k)) 64
      generalize hta : tA ts k = ta at *
      generalize htr : tR ts k = tr at *
      have HS := Lib.hid hS
      have HSZ := Lib.hid hS.siz
      clear hS hR hkl hta htr
      go_wp2_with (at_builtin; refine wpList_append_own_at _ rfl _ _ 50 rfl (w.heap.size + 3) 88 i0 _ 2 16 Try.underlying50 HIi.out HZ0.out HZ1.out HZ2.out rfl (by decide) va k (tv ts k) rfl ((HS.out.below (bAl (bRef wr) _)).below (bAl (bRef _) _)).row ⟨wr.heap.size + 1, 0, none⟩ 1 1 [.int .i64 ta, .int .i64 tr] rfl rfl (hnew2 _ _ _ _ _ (by simp)) (hone2 ta tr) (by unfold maxLen; omega) (by omega) (by have := HSZ.out; simp; omega) ?_; intro v1 w1 h1 h2 _ h4; have hh := HAPP.out _ _ _ ((HS.out.below (bAl (bRef wr) _)).below (bAl (bRef _) _)) h1 h2; obtain ⟨p1, k1, rfl⟩ := row_form h1; have HS2 := Lib.hid hh; clear h1 h2 h4 hh; obtain ⟨d0, d1, d2, df⟩ := HS2.out.cells)
      go_roundw
      case rel => exact ⟨k + 1, by rw [HN.out]; omega, by go_num, _, HS2.out.set _⟩
      case measure => simp [intOf]; omega
    · obtain rfl : k = n := by omega
      have hd : decide ((k : Int) < (k : Int)) = false := decide_eq_false (by omega)
      obtain ⟨c0, c1, c2, -⟩ := hS.cells
      have hr := hS.2.2.2.2.1
      have r0 : wr.cell? ⟨w.heap.size + 1, 0, none⟩ = some _ := cell_of_row _ _ _ _ _ _ hr
      have r1 : wr.cell? ⟨w.heap.size + 1, 1, none⟩ = some _ := cell_of_row _ _ _ _ _ _ hr
      have r2 : wr.cell? ⟨w.heap.size + 1, 2, none⟩ = some _ := cell_of_row _ _ _ _ _ _ hr
      have y0 := frozen_of_row wr _ 0 _ _ hr
      have y1 := frozen_of_row wr _ 1 _ _ hr
      have y2 := frozen_of_row wr _ 2 _ _ hr
      have HR := Lib.hid hr
      clear hr
      obtain ⟨pa, ka, rfl⟩ := row_form hS.row
      have HS := Lib.hid hS
      clear hS
      go_wp2_with fail
      refine bodyPlain rfl (heap_setCell_same _ _ 2 _ _ _ (heap_setCell_same _ _ 1 _ _ _ (heap_setCell_same _ _ 0 _ _ _ HR.out))) rfl ⟨_, rfl, ?_, ?_⟩
      · refine row_arg HI.out (B := w.heap.size + 3) ?_
        rw [HN.out]
        exact row_keep HS.out.row fun j hj => pl_off _ _ _ j (by have := (row_lt HS.out.row hj).1; omega)
      · exact HS.out.bel.trans (pl_bel _ _ _)

end Go.Proofs.Ytlpijhopllhccaa
