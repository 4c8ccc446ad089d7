/- Numbers as slices of digits: what is read, and the reference's functions on them. -/
import Derived.Test.YtjkgeoipkcjobaaMdNum
import Derived.Test.YtjkgeoipkcjobaaProg
import Derived.WalkKit
import Derived.WalkSpells
import Derived.WalkLawsBesides
import Derived.Lib.Hide
import Derived.Laws.OwnMore
import Derived.Deep.AppendLies
import Derived.Deep.QuietTactic
import Derived.BigQuiet
namespace Go.Proofs.Ytjkgeoipkcjobaa.Dgs
open Go.RowKit

/-- The slice's cells are these digits. -/
def Rd (w : World) (b o : Nat) (ds : List Nat) : Prop :=
  0 < ds.length → b < w.heap.size ∧ ∀ k, k < ds.length → w.cell? ⟨b, o + k, none⟩ = some (.int .i64 ((ds.getD k 0 : Nat) : Int))

/-- The value is the number's digits. -/
def Num (w : World) (v : Value) (a : Nat) : Prop :=
  ∃ (b o c : Nat) (ds : List Nat), v = .slice (some ⟨b, o, none⟩) ds.length c ∧ ds.length ≤ c ∧ Rd w b o ds ∧ Dg.IsD ds a

/-- The value's memory is new since there were B blocks. -/
def Fr (B : Nat) (v : Value) : Prop := ∀ k, v.ownBlock = some k → B ≤ k
def TPost (B : Nat) (w : World) (a : Nat) (e : Ending) (w' : World) : Prop := ∃ v, e = .returned v ∧ Num w' v a ∧ Below w.heap.size w w' ∧ Fr B v
def NumPost (w : World) (a : Nat) (e : Ending) (w' : World) : Prop := TPost w.heap.size w a e w'

section
variable {w w' : World} {b o : Nat} {ds : List Nat} {v : Value} {a : Nat}
theorem Rd.below (h : Rd w b o ds) (hb : Below w.heap.size w w') : Rd w' b o ds := fun h0 => by
  obtain ⟨hlt, hc⟩ := h h0
  exact ⟨Nat.lt_of_lt_of_le hlt hb.size, fun k hk => (hb.cell hlt).trans (hc k hk)⟩
theorem Rd.drewN (h : Rd w b o ds) (n : Nat) : Rd (w.drewN n) b o ds := h
theorem Rd.drew (h : Rd w b o ds) : Rd w.drew b o ds := h
theorem Rd.take (h : Rd w b o ds) (k : Nat) (hk : k ≤ ds.length) : Rd w b o (ds.take k) := fun h0 => by
  rw [List.length_take, Nat.min_eq_left hk] at h0
  obtain ⟨hlt, hc⟩ := h (by omega)
  refine ⟨hlt, fun j hj => ?_⟩
  rw [List.length_take, Nat.min_eq_left hk] at hj
  rw [hc j (by omega), List.getD_eq_getElem?_getD, List.getD_eq_getElem?_getD, List.getElem?_take, if_pos hj]
theorem Num.below (h : Num w v a) (hb : Below w.heap.size w w') : Num w' v a := by
  obtain ⟨b, o, c, ds, e, hc, hr, hd⟩ := h
  exact ⟨b, o, c, ds, e, hc, hr.below hb, hd⟩
theorem Num.drewN (h : Num w v a) (n : Nat) : Num (w.drewN n) v a := h
theorem Num.drew (h : Num w v a) : Num w.drew v a := h
theorem bRef' (w : World) : Below w.heap.size w w := Below.refl _ _
end

theorem bDr' {B : Nat} {w w' : World} (h : Below B w w') (n : Nat) : Below B w (w'.drewN n) := ⟨h.os, h.tape, h.output, h.size, h.block⟩
theorem below_drewN {w : World} (n : Nat) : Below w.heap.size w (w.drewN n) := ⟨rfl, rfl, rfl, Nat.le_refl _, fun _ _ => rfl⟩

theorem trim_end {B b o c k q : Nat} {ds : List Nat} {w : World} (hB : B ≤ b) (hs : Dg.Small ds) (hc : ds.length ≤ c) (hr : Rd w b o ds) (hk : k ≤ ds.length) (hv : Dg.val (ds.take k) = Dg.val ds)
    (hl : k = 0 ∨ ds.getD (k - 1) 0 ≠ 0) : TPost B w (Dg.val ds) (.returned (.slice (some ⟨b, o, none⟩) k c)) (w.drewN q) :=
  ⟨_, rfl, ⟨b, o, c, ds.take k, by rw [List.length_take, Nat.min_eq_left hk], by rw [List.length_take]; omega, (hr.take k hk).drewN q, Dg.isD_take hs k hk hv hl⟩, below_drewN q, fun k hk => by simp [Value.ownBlock] at hk; omega⟩

set_option maxHeartbeats 1000000 in
theorem trim_any (B b o c : Nat) (hB : B ≤ b) (ds : List Nat) (w : World) (hs : Dg.Small ds) (hc : ds.length ≤ c) (hl : ds.length ≤ 1000000) (hr : Rd w b o ds) :
    Calls Try.prog 34 #[.slice (some ⟨b, o, none⟩) ds.length c] w (TPost B w (Dg.val ds)) := by
  obtain ⟨n, hn⟩ : ∃ n, n = ds.length := ⟨_, rfl⟩
  have hc' := hc
  rw [← hn] at hc hl ⊢
  have Hn := Lib.hid hn
  have Hr := Lib.hid hr
  have Hc := Lib.hid hc'
  clear hn hr hc'
  go_enter Try.func34, Try.ntmps34
  go_wp2_with fail
  go_loopw [3] (fun m wr => ∃ k q : Nat, k ≤ n ∧ m = .int .i64 k ∧ wr = w.drewN q ∧ Dg.val (ds.take k) = Dg.val ds) (fun m _ => (intOf m).toNat)
  case atStart => exact ⟨n, 0, Nat.le_refl _, rfl, rfl, by rw [Hn.out, List.take_length]⟩
  case round =>
    obtain ⟨k, q, hk, rfl, rfl, hv⟩ := hrel
    have Hv := Lib.hid hv
    clear hv
    rcases Nat.eq_zero_or_pos k with h0 | h0
    · subst h0
      go_wp2_with fail
      go_ret
      exact trim_end hB hs Hc.out Hr.out (Nat.zero_le _) Hv.out (.inl rfl)
    · obtain ⟨hlt, hcell⟩ := Hr.out (by rw [← Hn.out]; omega)
      have hk1 := hcell (k - 1) (by rw [← Hn.out]; omega)
      obtain ⟨d, hd⟩ : ∃ d, d = ds.getD (k - 1) 0 := ⟨_, rfl⟩
      rw [← hd] at hk1
      have Hd := Lib.hid hd
      obtain ⟨k, rfl⟩ : ∃ j, k = j + 1 := ⟨k - 1, by omega⟩
      rw [Nat.add_sub_cancel] at hk1 Hd
      clear hcell hd
      by_cases hz : d = 0
      · subst hz
        go_wp2_with fail
        go_roundw
        case rel => exact ⟨k, _, by omega, by go_num, rfl, (Dg.val_take_zero ds k Hd.out.symm).symm.trans Hv.out⟩
        case measure => simp [intOf]
      · have hz' : ((d : Int) == 0) = false := by rw [beq_eq_false_iff_ne]; omega
        clear hz
        go_wp2_with fail
        go_ret
        exact trim_end hB hs Hc.out Hr.out (by rw [← Hn.out]; omega) Hv.out (.inr (by rw [Nat.add_sub_cancel, ← Hd.out]; intro h; subst h; simp at hz'))

theorem Try.infoInt : (Try.prog.info? 3).map (fun i => (i.zero, i.size, i.bytes)) = some (some (.int .i64 0), 1, 8) := by kernel_rfl

def dv (os : List Nat) : List Value := os.map fun (d : Nat) => Value.int .i64 (d : Int)

/-- The call's own digits. -/
def OwnD (w0 w : World) (v : Value) (os : List Nat) : Prop :=
  w.ownsRow w0.heap.size 3 1 v os.length (dv os) ∧ Below w0.heap.size w0 w ∧ Dg.Small os ∧ v ≠ .slice none 0 0

theorem OwnD.snoc {w0 w w1 : World} {v v' : Value} {os : List Nat} {d : Nat} {o : Obj} (h : OwnD w0 w v os) (hd : d < 65536)
    (hown : w1.ownsRow w0.heap.size 3 1 v' (os.length + 1) (dv os ++ [.int .i64 (d : Int)])) (hg : (w.alloc o).grownBy w1 v.ownBlock) (hn : v' = .slice none 0 0 ↔ v = .slice none 0 0 ∧ 1 = 0) : OwnD w0 w1 v' (os ++ [d]) := by
  refine ⟨?_, (h.2.1.alloc h.2.1.size o).grown hg (by have := h.2.1.size; simp; omega) (fun k hk => (h.1.lt k hk).1), h.2.2.1.snoc hd, fun e => by have := (hn.1 e).2; omega⟩
  have e : dv (os ++ [d]) = dv os ++ [.int .i64 (d : Int)] := by simp [dv]
  rw [e, List.length_append]
  exact hown

theorem OwnD.app {w0 w w1 : World} {v v' : Value} {os ds : List Nat} (h : OwnD w0 w v os) (hd : Dg.Small ds)
    (hown : w1.ownsRow w0.heap.size 3 1 v' (os.length + ds.length) (dv os ++ dv ds)) (hg : w.grownBy w1 v.ownBlock) (hn : v' = .slice none 0 0 ↔ v = .slice none 0 0 ∧ ds.length = 0) : OwnD w0 w1 v' (os ++ ds) := by
  refine ⟨?_, h.2.1.grown hg h.2.1.size (fun k hk => (h.1.lt k hk).1), h.2.2.1.append hd, fun e => h.2.2.2 (hn.1 e).1⟩
  have e : dv (os ++ ds) = dv os ++ dv ds := by simp [dv]
  rw [e, List.length_append]
  exact hown

/-- What the call owns can be read. -/
theorem OwnD.reads {w0 w : World} {v : Value} {os : List Nat} (h : OwnD w0 w v os) : ∃ b c, v = .slice (some ⟨b, 0, none⟩) os.length c ∧ os.length ≤ c ∧ Rd w b 0 os := by
  rcases h.1.2 with ⟨rfl, hz⟩ | ⟨g, cap, cur, rfl, hb, hg, hn, hm, hsz, hcur⟩
  · exact absurd rfl h.2.2.2
  · refine ⟨_, _, rfl, hn, fun _ => ⟨?_, fun k hk => ?_⟩⟩
    · exact (h.1.lt g (by simp [Value.ownBlock])).2
    · have := h.1.cells (g := g) (by simp [Value.ownBlock]) k (.int .i64 ((os.getD k 0 : Nat) : Int)) (by
        simp [dv, List.getD_eq_getElem?_getD, List.getElem?_eq_getElem hk])
      rcases Nat.eq_zero_or_pos k with h0 | h0
      · subst h0; simpa [Addr.add] using this
      · rw [Nat.zero_add]; unfold Addr.add at this; rw [if_neg (by omega)] at this; simpa using this

theorem OwnD.below {w0 w w' : World} {v : Value} {os : List Nat} (h : OwnD w0 w v os) (hb : Below w.heap.size w w') : OwnD w0 w' v os := by
  refine ⟨⟨h.1.1, ?_⟩, h.2.1.trans (hb.mono h.2.1.size), h.2.2⟩
  rcases h.1.2 with ⟨rfl, hz⟩ | ⟨g, cap, cur, rfl, h1, hg, h3⟩
  · exact .inl ⟨rfl, hz⟩
  · exact .inr ⟨g, cap, cur, rfl, h1, (hb.block g (h.1.lt g (by simp [Value.ownBlock])).2).trans hg, h3⟩
theorem OwnD.drew {w0 w : World} {v : Value} {os : List Nat} (h : OwnD w0 w v os) : OwnD w0 w.drew v os := ⟨h.1, h.2.1.drew, h.2.2⟩

theorem OwnD.fr {w0 w : World} {v : Value} {os : List Nat} (h : OwnD w0 w v os) : Fr w0.heap.size v := fun k hk => (h.1.lt k hk).1

theorem OwnD.num {w0 w : World} {v : Value} {os : List Nat} {a : Nat} (h : OwnD w0 w v os) (hd : Dg.IsD os a) : Num w v a := by
  obtain ⟨b, c, e, hc, hr⟩ := h.reads
  exact ⟨b, 0, c, os, e, hc, hr, hd⟩

theorem OwnD.start (w : World) : OwnD w (w.alloc (.cells #[] 3)) (.slice (some ⟨w.heap.size, 0, none⟩) 0 0) [] :=
  ⟨by simpa [dv] using World.ownsRow_made (base := w.heap.size) (e := 3) (size := 1) w #[] 0 (Nat.le_refl _) (by decide) rfl, (Below.refl _ _).alloc (Nat.le_refl _) _, Dg.Small.nil, by simp⟩

def OfRel (w : World) (x : Nat) (xv v : Value) (wr : World) : Prop :=
  ∃ (X : Nat) (os : List Nat), xv = .int .u64 (X : Int) ∧ OwnD w wr v os ∧ Dg.val os + 65536 ^ os.length * X = x ∧ os.length ≤ 4 ∧ X < 65536 ^ (4 - os.length) ∧ (X = 0 → Dg.IsD os x) ∧ X ≤ x

theorem of_step {w wr w1 : World} {x X : Nat} {v v' : Value} {os : List Nat} (ho : OwnD w wr v os) (h0 : 0 < X) (hv : Dg.val os + 65536 ^ os.length * X = x) (hl : os.length ≤ 4) (hX : X < 65536 ^ (4 - os.length)) (hxx : X ≤ x)
    (h1 : OwnD w w1 v' (os ++ [X % 65536])) : OfRel w x (.int .u64 ((X : Int) / 65536)) v' w1 := by
  have hlt := Dg.len_lt hl h0 hX
  refine ⟨X / 65536, os ++ [X % 65536], by rw [Int.natCast_ediv]; rfl, h1, Dg.step_val hv, by simp; omega, by rw [List.length_append]; exact Dg.step_lt hlt hX, fun hz => ?_, by omega⟩
  have e : X % 65536 = X := by omega
  rw [e, ← hv]
  exact Dg.isD_snoc ho.2.2.1 (by omega) (by omega)

set_option maxHeartbeats 1000000 in
theorem of_any (x : Nat) (hx : x < 18446744073709551616) (w : World) :
    Calls Try.prog 33 #[.int .u64 (x : Int)] w (NumPost w x) := by
  obtain ⟨i0, hi, hz0, hz1, hz2⟩ := info_parts Try.infoInt
  go_enter Try.func33, Try.ntmps33
  go_wp2_with fail
  go_loopw [0, 3] (fun xv v wr => OfRel w x xv v wr) (fun xv _ _ => (intOf xv).toNat)
  case atStart => exact ⟨x, [], rfl, OwnD.start w, by simp [Dg.val], by simp, by simpa using hx, fun h => by subst h; exact Dg.IsD.nil, Nat.le_refl _⟩
  case round =>
    obtain ⟨X, os, rfl, hown, hv, hl, hX, hz, hxx⟩ := hrel
    have Hv := Lib.hid hv
    have Hz := Lib.hid hz
    have HX := Lib.hid hX
    have Ho := Lib.hid hown
    have hown' := hown.1
    have hsz := hown.2.1.size
    clear hv hz hX hown
    rcases Nat.eq_zero_or_pos X with h0 | h0
    · subst h0
      go_wp2_with fail
      go_ret
      exact ⟨_, rfl, Ho.out.num (by first | exact Hz.out rfl | exact Hz.out trivial), Ho.out.2.1, Ho.out.fr⟩
    · have hp : 0 < (X : Int) := by omega
      go_wp2_with (at_builtin; refine wpList_append_own _ rfl _ _ 37 rfl w.heap.size 3 i0 (.int .i64 0) 1 8 Try.underlying37 hi hz0 hz1 hz2 rfl (by decide) _ _ _ rfl (hown'.alloc _) ⟨wr.heap.size, 0, none⟩ 1 1 [.int .i64 ((X % 65536 : Nat) : Int)] rfl rfl (cell_one_new _ _ _) (fun x hx => by simp at hx; subst hx; rfl) (by unfold maxLen; omega) (by omega) (by simp; omega) ?_; intro v' w1 hown1 hgrow1 hnil1)
      go_roundw
      case rel => exact of_step Ho.out h0 Hv.out hl HX.out hxx (Ho.out.snoc (Nat.mod_lt _ (by omega)) hown1 hgrow1 hnil1)
      case measure => simp [intOf]; omega

theorem trim_own {w0 w : World} {v : Value} {xs : List Nat} (h : OwnD w0 w v xs) (hl : xs.length ≤ 1000000) : Calls Try.prog 34 #[v] w (TPost w0.heap.size w (Dg.val xs)) := by
  have hf := h.fr
  obtain ⟨b, c, rfl, hc, hr⟩ := h.reads
  exact trim_any w0.heap.size b 0 c (hf b (by simp [Value.ownBlock])) xs w h.2.2.1 hc hl hr

theorem Num.set {w : World} {v : Value} {a B g i : Nat} {u : Value} (h : Num w v a) (hf : Fr B v) (hg : g < B) : Num (w.setCell ⟨g, i, none⟩ u) v a := by
  obtain ⟨b, o, c, ds, rfl, hc, hr, hd⟩ := h
  refine ⟨b, o, c, ds, rfl, hc, fun h0 => ?_, hd⟩
  obtain ⟨h1, h2⟩ := hr h0
  refine ⟨by simpa [World.setCell] using h1, fun k hk => ?_⟩
  rw [World.cell?_setCell_other _ _ _ _ (fun e => by have := hf b (by simp [Value.ownBlock]); injection e; omega)]
  exact h2 k hk

theorem ret_int {k : IntKind} {a b : Int} (h : a = b) : Ending.returned (.int k a) = .returned (.int k b) := by rw [h]

theorem NumPost.from {w0 w : World} {a b : Nat} {e : Ending} {w' : World} (h : TPost w0.heap.size w a e w') (hb : Below w0.heap.size w0 w) (he : a = b) : NumPost w0 b e w' := by
  obtain ⟨v, h1, h2, h3, h4⟩ := h
  exact ⟨v, h1, he ▸ h2, hb.trans (h3.mono hb.size), h4⟩

end Go.Proofs.Ytjkgeoipkcjobaa.Dgs
