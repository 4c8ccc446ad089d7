/- Package fdb: forget, Age, Flush. -/
import Derived.Test.YtkbodcgamfkegaaFdLearn
namespace Go.Proofs.Ytkbodcgamfkegaa
open Go.RowKit Go.Joins Go.Maps Go.MapKept Go.ChangeMaps Go.WideMaps

theorem same_kl {a c : Pl} (ha : a.Good) (hc : c.Good) : (klP a).sameKey (klP c) = decide (a = c) := by
  by_cases h : a = c
  · subst h
    rw [decide_eq_true rfl]
    exact WideAt.sameKey_self (ME.isKey ha)
  · rw [decide_eq_false h]
    exact Maps.sameKey_ne (fun e => h (ME.klinj ha hc e))
theorem nodup_key {α β : Type} {L : List (α × β)} (hn : (L.map (·.1)).Nodup) {x y : α × β} (hx : x ∈ L) (hy : y ∈ L) (h : x.1 = y.1) : x = y := by
  induction L with
  | nil => simp at hx
  | cons z L ih =>
    simp only [List.map_cons, List.nodup_cons] at hn
    rcases List.mem_cons.1 hx with h1 | h1 <;> rcases List.mem_cons.1 hy with h2 | h2
    · rw [h1, h2]
    · exact absurd (List.mem_map.2 ⟨y, h2, by rw [← h, h1]⟩) hn.1
    · exact absurd (List.mem_map.2 ⟨x, h1, by rw [h, h2]⟩) hn.1
    · exact ih hn.2 h1 h2
/-- What is left of the list. -/
def lst (E : List (Pl × (Int × Int))) (left : Lit → Bool) (q : Int × Int → Bool) : List (Pl × (Int × Int)) := E.filter (fun e => left (klP e.1) || !q e.2)
theorem lst_keep {E : List (Pl × (Int × Int))} {left : Lit → Bool} {q : Int × Int → Bool} (hn : (E.map (·.1)).Nodup) (hg : ∀ e ∈ E, e.1.Good) {e : Pl × (Int × Int)} (he : e ∈ E) (hq : q e.2 = false) :
    lst E (fun x => left x && !x.sameKey (klP e.1)) q = lst E left q := by
  unfold lst
  refine List.filter_congr fun x hx => ?_
  dsimp only
  rw [same_kl (hg x hx) (hg e he)]
  by_cases h : x.1 = e.1
  · have := nodup_key hn hx he h
    subst this
    simp [hq]
  · simp [h]
theorem lst_drop {E : List (Pl × (Int × Int))} {left : Lit → Bool} {q : Int × Int → Bool} (hn : (E.map (·.1)).Nodup) (hg : ∀ e ∈ E, e.1.Good) {e : Pl × (Int × Int)} (he : e ∈ E) (hq : q e.2 = true) :
    lst E (fun x => left x && !x.sameKey (klP e.1)) q = delL (lst E left q) e.1 := by
  unfold lst delL
  rw [List.filter_filter]
  refine List.filter_congr fun x hx => ?_
  dsimp only
  rw [same_kl (hg x hx) (hg e he)]
  by_cases h : x.1 = e.1
  · have := nodup_key hn hx he h
    subst this
    simp [hq]
  · simp [h]
section
variable {B m : Nat} {w : World} {b : TB} {s : TS}
/-- In the loop. -/
def FRel (B m : Nat) (w : World) (b : TB) (s : TS) (cb : Nat) (x : Int) (q : Int × Int → Bool) (kv : Value) (wr : World) : Prop :=
  ∃ (left : Lit → Bool) (cnt : Nat), kv = .int .i64 ((s.E.length : Int) - ((lst s.E left q).length : Int)) ∧ RngL ME wr b.e w.heap.size m (lst s.E left q) left cnt ∧ (∀ l, left l = true → ∃ e ∈ lst s.E left q, l = klP e.1) ∧
    Tab B wr b m { s with E := lst s.E left q } ∧ ButB b.e w wr ∧ wr.cell? ⟨cb, 0, none⟩ = some (.int .i64 x)
theorem RngL.below {M : MK Try.prog Pl (Int × Int)} {w w' : World} {b r n cnt : Nat} {L : List (Pl × (Int × Int))} {left : Lit → Bool} (h : RngL M w b r n L left cnt) (hb : Below w.heap.size w w') : RngL M w' b r n L left cnt :=
  h.kept (row := none) ⟨hb.os, hb.tape, hb.output, hb.size, fun i hi _ => hb.block i hi⟩ (by simp) (by simp)
set_option maxHeartbeats 4000000 in
theorem forget_any (h : Tab B w b m s) (hm : m ≤ 1000000) (f cb : Nat) (x : Int) (q : Int × Int → Bool) (hx : w.cell? ⟨cb, 0, none⟩ = some (.int .i64 x)) (hlt : cb < w.heap.size) (hne : cb ≠ b.e)
    (ef : ∀ args w, (callFunc f args).run Try.prog w = .ok (.enter f args) w)
    (hf : Hid (∀ W c, W.cell? ⟨cb, 0, none⟩ = some (.int .i64 x) → Calls Try.prog f #[V2 c, .pointer (some ⟨cb, 0, none⟩)] W fun e W' => e = .returned (.bool (q c)) ∧ Below W.heap.size W W')) :
    Calls Try.prog 31 #[.pointer (some ⟨b.t, 0, none⟩), .func (.func f) #[] #[.pointer (some ⟨cb, 0, none⟩)]] w fun e w' => e = .returned (.int .i64 ((s.E.length - (s.E.filter (fun e => !q e.2)).length : Nat) : Int)) ∧ Tab B w' b m { s with E := s.E.filter (fun e => !q e.2) } ∧ ButB b.e w w' := by
  obtain ⟨c0, c1, c2, c3, c4⟩ := h.cells
  obtain ⟨w1, hrun, left, cnt, hrg, hleft, hgr, hsz⟩ := h.me.range
  have hrun2 : (Instr.range 79 (.map (some b.e))).run Try.prog w = .ok (.pointer (some ⟨w.heap.size, 0, none⟩)) w1 := hrun
  have hall : lst s.E left q = s.E := by
    unfold lst
    rw [List.filter_eq_self]
    intro e he
    rw [(hleft (klP e.1)).2 ⟨e, he, rfl⟩]; rfl
  have hB1 : Below w.heap.size w w1 := ⟨hgr.os, hgr.tape, hgr.output, hgr.size, fun k hk => hgr.block k hk (by simp)⟩
  have T1 := Lib.hid (h.below hB1)
  have HB1 := Lib.hid (ButB.of_below (b := b.e) hB1)
  have X1 := Lib.hid ((hB1.cell hlt).trans hx)
  have HR := Lib.hid hrg
  have HLf := Lib.hid hleft
  have HAl := Lib.hid hall
  have HNd := Lib.hid h.me.nodup
  have HGd := Lib.hid h.me.good
  have HLt := Lib.hid h.lt
  have HM : Hid (s.E.length ≤ 1000000) := Lib.hid (Nat.le_trans h.me.le hm)
  have HCB := Lib.hid hlt
  have HN := Lib.hid hne
  clear hrun hrg hleft hgr hsz hall hB1 hx hlt h hm hne
  go_enter Try.func31, Try.ntmps31
  go_wp2_with fail
  go_loopw [5] (fun kv wr => FRel B m w b s cb x q kv wr) (fun _ wr => wr.rangeLeft b.e w.heap.size)
  case atStart => exact ⟨left, cnt, by rw [HAl.out]; simp, by rw [HAl.out]; exact HR.out, fun l hl => by rw [HAl.out]; exact (HLf.out l).1 hl, by rw [HAl.out]; exact T1.out, HB1.out, X1.out⟩
  case round =>
    clear T1 HB1 X1 HR HLf HAl c0 c1 c2 c3 c4 hrun2
    obtain ⟨lf, cn, rfl, hr, hsub, ht, hb, hxc⟩ := hrel
    have hle : (lst s.E lf q).length ≤ s.E.length := List.length_filter_le _ _
    rcases hr.next hsub 0 with ⟨hno, hrun⟩ | ⟨e, he, hlk, w2, cn2, hrun, hr2, hlt2, hg2, hs2, hen⟩
    · have hfin : lst s.E lf q = s.E.filter (fun e => !q e.2) := by
        unfold lst
        refine List.filter_congr fun x hx => ?_
        rw [hno]; rfl
      have HF := Lib.hid hfin
      have HT := Lib.hid ht
      have HB := Lib.hid hb
      clear hr hsub ht hb hxc hno hfin
      go_wp2_with fail
      go_ret
      refine ⟨?_, by rw [← HF.out]; exact HT.out, HB.out⟩
      show Ending.returned (Value.int .i64 ((s.E.length : Int) - ((lst s.E lf q).length : Int))) = _
      rw [HF.out]
      have hl9 : (s.E.filter (fun e => !q e.2)).length ≤ s.E.length := List.length_filter_le _ _
      rw [show ((s.E.length - (s.E.filter (fun e => !q e.2)).length : Nat) : Int) = (s.E.length : Int) - ((s.E.filter (fun e => !q e.2)).length : Int) by omega]
    · have heE : e ∈ s.E := (List.mem_filter.1 he).1
      have hge := HGd.out e heE
      have hL := HLt.out
      have ht2 : Tab B w2 b m { s with E := lst s.E lf q } := ht.heap (hg2.block _ ht.lt.1 (by simp; omega)) (hg2.block _ ht.lt.2.1 (by simp; omega)) (hg2.block _ ht.lt.2.2.1 (by simp; omega)) (hg2.block _ ht.lt.2.2.2.1 (by simp; omega)) (hg2.block _ ht.lt.2.2.2.2 (by simp; omega))
      have hbw := hb.size
      have hb2 : ButB b.e w w2 := ⟨hg2.os.trans hb.os, hg2.tape.trans hb.tape, hg2.output.trans hb.output, Nat.le_trans hbw hg2.size, fun k hk hn => (hg2.block k (by omega) (by simp; omega)).trans (hb.block k hk hn)⟩
      have hx2 : w2.cell? ⟨cb, 0, none⟩ = some (.int .i64 x) := by
        have e9 := hg2.block cb (by have := HCB.out; omega) (by have := HCB.out; simp; omega)
        unfold World.cell? at hxc ⊢
        simp only [e9]
        exact hxc
      have HE2 : Hid (∀ W, Below w2.heap.size w2 W → W.cell? ⟨cb, 0, none⟩ = some (.int .i64 x)) := Lib.hid (fun W hW => (hW.cell (by have := HCB.out; show cb < _; have := hb2.size; omega)).trans hx2)
      have HR2 := Lib.hid hr2
      have HT2 := Lib.hid ht2
      have HB2 := Lib.hid hb2
      have HK := Lib.hid hlk
      have HS := Lib.hid hsub
      have HE := Lib.hid he
      have HEE := Lib.hid heE
      have HGE := Lib.hid hge
      have HLe := Lib.hid hle
      have HC2 := Lib.hid hlt2
      have HO := Lib.hid hr.left_eq
      clear hr hsub ht hb hxc hL ht2 hb2 hx2 hr2 hlk he heE hge hle hlt2 hg2 hs2 hbw
      obtain ⟨p, c⟩ := e
      have hrun1 : (Instr.next (.pointer (some ⟨w.heap.size, 0, none⟩)) false 0).run Try.prog wr = .ok (.tuple #[.bool true, .agg #[.int .i64 p.1, .int .u8 (p.2.y0 : Int), .int .u8 (p.2.y1 : Int), .int .u8 (p.2.y2 : Int), .int .u8 (p.2.y3 : Int), .int .u8 (p.2.y4 : Int), .int .u8 (p.2.y5 : Int)], .agg #[.int .i64 c.1, .int .i64 c.2]]) w2 := hrun
      have hen1 : (Instr.entry (.pointer (some ⟨w.heap.size, 0, none⟩))).run Try.prog w2 = .ok (.tuple #[.agg #[.int .i64 p.1, .int .u8 (p.2.y0 : Int), .int .u8 (p.2.y1 : Int), .int .u8 (p.2.y2 : Int), .int .u8 (p.2.y3 : Int), .int .u8 (p.2.y4 : Int), .int .u8 (p.2.y5 : Int)], .agg #[.int .i64 c.1, .int .i64 c.2]]) w2 := hen
      clear hrun hen
      have HG : Hid (∀ W, Below w2.heap.size w2 W → RngL ME W b.e w.heap.size m (lst s.E lf q) (fun x => lf x && !x.sameKey (klP p)) cn2) := Lib.hid (fun W hW => HR2.out.below hW)
      rcases hq : q c with _ | _
      · have HC : Hid (∀ W, W.cell? ⟨cb, 0, none⟩ = some (.int .i64 x) → Calls Try.prog f #[.agg #[.int .i64 c.1, .int .i64 c.2], .pointer (some ⟨cb, 0, none⟩)] W fun e W' => e = .returned (.bool false) ∧ Below W.heap.size W W') := Lib.hid (fun W hW => by have k := hf.out W c hW; rw [hq] at k; exact k)
        go_wp2_with ((with_reducible refine (HC.out _ (HE2.out _ (bAl (bAl (bRef w2) _) _))).mono ?_); rintro e w4 ⟨rfl, hbc⟩; have HB4 := Lib.hid (bTr (bAl (bAl (bRef w2) _) _) hbc); clear hbc)
        have hn : ((lst s.E lf q).map (·.1)).Nodup := HT2.out.me.nodup
        have hk := lst_keep (q := q) (left := lf) HNd.out HGd.out HEE.out hq
        have hb4 := ButB.of_below (b := b.e) HB4.out
        refine ⟨⟨fun x => lf x && !x.sameKey (klP p), cn2, ?_, ?_, ?_, ?_, HB2.out.trans hb4, HE2.out _ HB4.out⟩, ?_⟩
        · rw [hk]
        · rw [hk]; exact HG.out _ HB4.out
        · intro l hl
          rw [hk]
          exact HS.out l (by simp only [Bool.and_eq_true] at hl; exact hl.1)
        · rw [hk]; exact HT2.out.below HB4.out
        · rw [(HG.out _ HB4.out).left_eq, HO.out]; exact HC2.out
      · have HC : Hid (∀ W, W.cell? ⟨cb, 0, none⟩ = some (.int .i64 x) → Calls Try.prog f #[.agg #[.int .i64 c.1, .int .i64 c.2], .pointer (some ⟨cb, 0, none⟩)] W fun e W' => e = .returned (.bool true) ∧ Below W.heap.size W W') := Lib.hid (fun W hW => by have k := hf.out W c hW; rw [hq] at k; exact k)
        go_wp2_with ((with_reducible refine (HC.out _ (HE2.out _ (bAl (bAl (bRef w2) _) _))).mono ?_); rintro e w4 ⟨rfl, hbc⟩; have HB4 := Lib.hid (bTr (bAl (bAl (bRef w2) _) _) hbc); have hp0 := (bAl (bRef (w2.alloc (.cells #[.int .i64 p.1, .int .u8 (p.2.y0 : Int), .int .u8 (p.2.y1 : Int), .int .u8 (p.2.y2 : Int), .int .u8 (p.2.y3 : Int), .int .u8 (p.2.y4 : Int), .int .u8 (p.2.y5 : Int)] 42))) (.cells #[.int .i64 c.1, .int .i64 c.2] 86)).block w2.heap.size (lt_of_heap (heap_alloc_one w2 (.cells #[.int .i64 p.1, .int .u8 (p.2.y0 : Int), .int .u8 (p.2.y1 : Int), .int .u8 (p.2.y2 : Int), .int .u8 (p.2.y3 : Int), .int .u8 (p.2.y4 : Int), .int .u8 (p.2.y5 : Int)] 42))) |>.trans (heap_alloc_one w2 (.cells #[.int .i64 p.1, .int .u8 (p.2.y0 : Int), .int .u8 (p.2.y1 : Int), .int .u8 (p.2.y2 : Int), .int .u8 (p.2.y3 : Int), .int .u8 (p.2.y4 : Int), .int .u8 (p.2.y5 : Int)] 42)); have hpb := (hbc.block w2.heap.size (lt_of_heap hp0)).trans hp0; clear hbc hp0)
        obtain ⟨z0, z1, z2, z3, c4⟩ := (HT2.out.below HB4.out).cells
        clear z0 z1 z2 z3
        have k0 : w4.cell? ⟨w2.heap.size, 0, none⟩ = some (.int .i64 p.1) := cell_of_row _ _ _ _ _ _ hpb
        have k1 : w4.cell? ⟨w2.heap.size, 1, none⟩ = some (.int .u8 (p.2.y0 : Int)) := cell_of_row _ _ _ _ _ _ hpb
        have k2 : w4.cell? ⟨w2.heap.size, 2, none⟩ = some (.int .u8 (p.2.y1 : Int)) := cell_of_row _ _ _ _ _ _ hpb
        have k3 : w4.cell? ⟨w2.heap.size, 3, none⟩ = some (.int .u8 (p.2.y2 : Int)) := cell_of_row _ _ _ _ _ _ hpb
        have k4 : w4.cell? ⟨w2.heap.size, 4, none⟩ = some (.int .u8 (p.2.y3 : Int)) := cell_of_row _ _ _ _ _ _ hpb
        have k5 : w4.cell? ⟨w2.heap.size, 5, none⟩ = some (.int .u8 (p.2.y4 : Int)) := cell_of_row _ _ _ _ _ _ hpb
        have k6 : w4.cell? ⟨w2.heap.size, 6, none⟩ = some (.int .u8 (p.2.y5 : Int)) := cell_of_row _ _ _ _ _ _ hpb
        have HB5 := Lib.hid (bDr HB4.out 1)
        have HX5 := Lib.hid (HE2.out _ HB5.out)
        have hT5 : Tab B w4.drew b m { s with E := lst s.E lf q } := HT2.out.below HB5.out
        obtain ⟨w6, cn6, hrun, hrg6, hle6, hturn⟩ := (HG.out _ HB5.out).del p HGE.out 0
        have hrun2 : (Builtin.delete_ #[79, 42] 0 #[.map (some b.e), .agg #[.int .i64 p.1, .int .u8 (p.2.y0 : Int), .int .u8 (p.2.y1 : Int), .int .u8 (p.2.y2 : Int), .int .u8 (p.2.y3 : Int), .int .u8 (p.2.y4 : Int), .int .u8 (p.2.y5 : Int)]]).run Try.prog w4.drew = .ok (.tuple #[]) w6 := hrun
        have HR6 := Lib.hid hrg6
        have HL6 := Lib.hid hle6
        have HT6 : Hid (Tab B w6 b m { s with E := delL (lst s.E lf q) p }) := Lib.hid (hT5.setE hturn (Nat.le_refl m) hrg6.mapL)
        have HB6 : Hid (ButB b.e w2 w6) := Lib.hid ((ButB.of_below HB5.out).trans (ButB.turned hturn))
        clear hrun hrg6 hle6 hturn hT5 hpb hrun1 hen1
        go_region
        all_goals
          go_wp2_with fail
          have hn : ((lst s.E lf q).map (·.1)).Nodup := HT2.out.me.nodup
          have hk := lst_drop (q := q) (left := lf) HNd.out HGd.out HEE.out hq
          dsimp only at hk
          have hl := len_delL hn p
          rw [lookL_of_mem hn HE.out] at hl
          have hle := HLe.out
          have hmx := HM.out
          have hk2 : (fun x => lf x && !x.sameKey (klP p) && !x.sameKey (klP p)) = fun x => lf x && !x.sameKey (klP p) := by
            funext y
            cases lf y <;> cases y.sameKey (klP p) <;> rfl
          have hR : RngL ME w6 b.e w.heap.size m (delL (lst s.E lf q) p) (fun x => lf x && !x.sameKey (klP p)) cn6 := hk2 ▸ HR6.out
          simp only [Option.isSome_some, if_true] at hl
          refine ⟨⟨fun x => lf x && !x.sameKey (klP p), cn6, ?_, ?_, ?_, ?_, HB2.out.trans HB6.out, ?_⟩, ?_⟩
          · refine congrArg (Value.int .i64) ?_
            rw [hk, show wrap64 ((s.E.length : Int) - ((lst s.E lf q).length : Int) + 1) = (s.E.length : Int) - ((lst s.E lf q).length : Int) + 1 by unfold wrap64; omega]
            omega
          · rw [hk]; exact hR
          · intro l h9
            rw [hk]
            simp only [Bool.and_eq_true] at h9
            obtain ⟨e, he, hle9⟩ := HS.out l h9.1
            refine ⟨e, mem_delL.2 ⟨he, fun e1 => ?_⟩, hle9⟩
            have h10 : (klP p).sameKey (klP p) = true := WideAt.sameKey_self (ME.isKey HGE.out)
            have h11 := h9.2
            rw [hle9, show e.1 = p from e1, h10] at h11
            cases h11
          · rw [hk]; exact HT6.out
          · have e9 := HB6.out.block cb (by have := HB2.out.size; have := HCB.out; omega) HN.out
            have := HE2.out w2 (bRef w2)
            unfold World.cell? at this ⊢
            simp only [e9]
            exact this
          · rw [hR.left_eq, HO.out]
            have := HC2.out; have := HL6.out; omega
end

end Go.Proofs.Ytkbodcgamfkegaa
