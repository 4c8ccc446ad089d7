/- Package meter: wait. -/
import Derived.Test.YtjkgeoipkcjobaaMtFillA
namespace Go.Proofs.Ytjkgeoipkcjobaa
open Go.RowKit Go.Joins

section
variable {w w' : World} {b : Nat} {m : MS}
theorem Mtr.cells (h : Mtr w b m) : w.cell? ⟨b, 0, none⟩ = some (.int .i64 m.r) ∧ w.cell? ⟨b, 1, none⟩ = some (.int .i64 m.bu) ∧ w.cell? ⟨b, 2, none⟩ = some (.int .i64 m.mo) ∧ w.cell? ⟨b, 3, none⟩ = some (.int .i64 m.be) ∧ w.cell? ⟨b, 4, none⟩ = some (.bool m.cp) ∧ w.cell? ⟨b, 5, none⟩ = some (.bool m.aw) ∧
    w.cell? ⟨b, 6, none⟩ = some (.bool m.sh) ∧ w.cell? ⟨b, 7, none⟩ = some (.int .i64 m.last) ∧ w.cell? ⟨b, 8, none⟩ = some (.int .i64 m.fi) ∧ w.cell? ⟨b, 9, none⟩ = some (.int .i64 m.se) ∧ w.cell? ⟨b, 10, none⟩ = some (.bool m.off) ∧ w.frozen? ⟨b, 7, none⟩ = false ∧ w.frozen? ⟨b, 10, none⟩ = false := by
  refine ⟨cell_of_row _ _ _ _ _ _ h, cell_of_row _ _ _ _ _ _ h, cell_of_row _ _ _ _ _ _ h, cell_of_row _ _ _ _ _ _ h, cell_of_row _ _ _ _ _ _ h, cell_of_row _ _ _ _ _ _ h, cell_of_row _ _ _ _ _ _ h, cell_of_row _ _ _ _ _ _ h, cell_of_row _ _ _ _ _ _ h, cell_of_row _ _ _ _ _ _ h, cell_of_row _ _ _ _ _ _ h, frozen_of_row _ _ _ _ _ h, frozen_of_row _ _ _ _ _ h⟩
theorem Mtr.setLast (h : Mtr w b m) (x : Int) : Mtr (w.setCell ⟨b, 7, none⟩ (.int .i64 x)) b { m with last := x } := heap_setCell_same w b 7 _ _ _ h
theorem Mtr.setOff (h : Mtr w b m) (x : Bool) : Mtr (w.setCell ⟨b, 10, none⟩ (.bool x)) b { m with off := x } := heap_setCell_same w b 10 _ _ _ h
end

def m1 (m : MS) (now : Int) : MS := { m with last := now }
def m2 (m : MS) (now : Int) : MS := { m with last := now, fi := fillP m.fi (m.r * (now - m.last)) m.bu }
def m3 (m : MS) (now : Int) : MS := { m with last := now, fi := fillP m.fi (m.r * (now - m.last)) m.bu, se := fillP m.se (m.mo * (now - m.last)) m.be }
/-- Behind the first pail. -/
def WMid (w : World) (b : Nat) (m : MS) (now : Int) (s5 : Value) (wx : World) : Prop :=
  ∃ g, s5 = .pointer (some ⟨g, 0, none⟩) ∧ Mtr wx b (m2 m now) ∧ ButB b w wx ∧ g < wx.heap.size ∧ g ≠ b ∧ wx.cell? ⟨g, 0, none⟩ = some (.int .u64 (fillL m.fi (m.r * (now - m.last)) m.bu / 18446744073709551616)) ∧ wx.cell? ⟨g, 1, none⟩ = some (.int .u64 (fillL m.fi (m.r * (now - m.last)) m.bu % 18446744073709551616))
/-- The fields that a region reads. -/
structure Rd (w : World) (b : Nat) (r bu mo be : Int) (cp : Bool) : Prop where
  c0 : w.cell? ⟨b, 0, none⟩ = some (.int .i64 r)
  c1 : w.cell? ⟨b, 1, none⟩ = some (.int .i64 bu)
  c2 : w.cell? ⟨b, 2, none⟩ = some (.int .i64 mo)
  c3 : w.cell? ⟨b, 3, none⟩ = some (.int .i64 be)
  c4 : w.cell? ⟨b, 4, none⟩ = some (.bool cp)
theorem Mtr.rd {w : World} {b : Nat} {m : MS} (h : Mtr w b m) : Rd w b m.r m.bu m.mo m.be m.cp :=
  ⟨cell_of_row _ _ _ _ _ _ h, cell_of_row _ _ _ _ _ _ h, cell_of_row _ _ _ _ _ _ h, cell_of_row _ _ _ _ _ _ h, cell_of_row _ _ _ _ _ _ h⟩

theorem heap_cell {w w1 : World} {g : Nat} (h : w1.heap[g]? = w.heap[g]?) (i : Nat) : w1.cell? ⟨g, i, none⟩ = w.cell? ⟨g, i, none⟩ ∧ w1.frozen? ⟨g, i, none⟩ = w.frozen? ⟨g, i, none⟩ := by
  unfold World.cell? World.frozen?
  simp only [h, and_self]
theorem NB.but {g b : Nat} {w w1 : World} (h : NB g w) (hb : ButB b w w1) (hn : g ≠ b) : NB g w1 := by
  have e := heap_cell (hb.block g h.lt hn)
  exact ⟨Nat.lt_of_lt_of_le h.lt hb.size, (e 0).1.trans h.x, (e 1).1.trans h.y, (e 0).2.trans h.fx, (e 1).2.trans h.fy⟩
theorem Mtr.drew {w : World} {b : Nat} {m : MS} (h : Mtr w b m) : Mtr w.drew b m := h
theorem Mtr.alloc {w : World} {b : Nat} {m : MS} (h : Mtr w b m) (o : Obj) : Mtr (w.alloc o) b m := h.below (bAl (bRef w) o)
theorem ButB.drew {b : Nat} {w w1 : World} (h : ButB b w w1) : ButB b w w1.drew := h.trans (ButB.of_below (bDr (bRef w1) 1))
def ZZ : Obj := .cells #[.int .u64 0, .int .u64 0] 66
theorem wmid_new {w wx : World} {b : Nat} {m : MS} {now : Int} (h : Mtr wx b (m2 m now)) (hb : ButB b w wx) {v1 v2 : Int} (e1 : v1 = fillL m.fi (m.r * (now - m.last)) m.bu / 18446744073709551616) (e2 : v2 = fillL m.fi (m.r * (now - m.last)) m.bu % 18446744073709551616) (t : TypeId) :
    WMid w b m now (.pointer (some ⟨wx.heap.size, 0, none⟩)) (wx.alloc (.cells #[.int .u64 v1, .int .u64 v2] t)) := by
  subst e1 e2
  have := h.lt
  exact ⟨_, rfl, h.alloc _, hb.alloc _, by simp, by omega, by simp, by simp⟩
theorem wmid_set {w wx : World} {b g : Nat} {m : MS} {now : Int} (h : Mtr wx b (m2 m now)) (hb : ButB b w wx) (n : NB g wx) (hn : g ≠ b) (hg : w.heap.size ≤ g) :
    WMid w b m now (.pointer (some ⟨g, 0, none⟩)) ((wx.setCell ⟨g, 0, none⟩ (.int .u64 (fillL m.fi (m.r * (now - m.last)) m.bu / 18446744073709551616))).setCell ⟨g, 1, none⟩ (.int .u64 (fillL m.fi (m.r * (now - m.last)) m.bu % 18446744073709551616))) := by
  have q0 : ((wx.setCell ⟨g, 0, none⟩ (.int .u64 (fillL m.fi (m.r * (now - m.last)) m.bu / 18446744073709551616))).setCell ⟨g, 1, none⟩ (.int .u64 (fillL m.fi (m.r * (now - m.last)) m.bu % 18446744073709551616))).cell? ⟨g, 0, none⟩ = some (.int .u64 (fillL m.fi (m.r * (now - m.last)) m.bu / 18446744073709551616)) := by
    rw [World.cell?_setCell_other (h := fun e => by injection e with _ e2 _; cases e2)]
    exact World.cell?_setCell_same (h := n.x) ..
  have q1 : ((wx.setCell ⟨g, 0, none⟩ (.int .u64 (fillL m.fi (m.r * (now - m.last)) m.bu / 18446744073709551616))).setCell ⟨g, 1, none⟩ (.int .u64 (fillL m.fi (m.r * (now - m.last)) m.bu % 18446744073709551616))).cell? ⟨g, 1, none⟩ = some (.int .u64 (fillL m.fi (m.r * (now - m.last)) m.bu % 18446744073709551616)) := by
    refine World.cell?_setCell_same (u := .int .u64 0) (h := ?_) ..
    rw [World.cell?_setCell_other (h := fun e => by injection e with _ e2 _; cases e2)]
    exact n.y
  exact ⟨g, rfl, (heap_setCell_other _ ⟨g, 1, none⟩ b _ (fun e => hn e.symm)).trans ((heap_setCell_other _ ⟨g, 0, none⟩ b _ (fun e => hn e.symm)).trans h), (hb.fresh (a := ⟨g, 0, none⟩) hg _).fresh (a := ⟨g, 1, none⟩) hg _, by simpa using n.lt, hn, q0, q1⟩
/-- A box that is read. -/
structure RB (g : Nat) (x y : Value) (w : World) : Prop where
  lt : g < w.heap.size
  x : w.cell? ⟨g, 0, none⟩ = some x
  y : w.cell? ⟨g, 1, none⟩ = some y
theorem RB.but {g b : Nat} {x y : Value} {w w1 : World} (h : RB g x y w) (hb : ButB b w w1) (hn : g ≠ b) : RB g x y w1 := by
  have e := heap_cell (hb.block g h.lt hn)
  exact ⟨Nat.lt_of_lt_of_le h.lt hb.size, (e 0).1.trans h.x, (e 1).1.trans h.y⟩

set_option maxHeartbeats 4000000 in
theorem wait_any {w : World} {b : Nat} {m : MS} (h : Mtr w b m) (g : m.Good) (now : Int) (h0 : m.last ≤ now) (h1 : now ≤ 1099511627776) :
    Calls Try.prog 19 #[.pointer (some ⟨b, 0, none⟩), .int .i64 now] w fun e w' => e = .returned (.tuple #[]) ∧ Mtr w' b (m.wait now) ∧ ButB b w w' := by
  have g1 := g.l0
  have g2 := g.r0
  have g3 := g.mo0
  have g4 := g.r1
  have g5 := g.mo1
  have e1 := mul_bd (d := 1099511627776) g.r0 g.r1 (show 0 ≤ now - m.last by omega) (by omega)
  have e2 := mul_bd (d := 1099511627776) g.mo0 g.mo1 (show 0 ≤ now - m.last by omega) (by omega)
  have W0 : IntKind.u64.wrap m.r = m.r := by rw [IntKind.wrap_u64]; omega
  have W1 : IntKind.u64.wrap m.mo = m.mo := by rw [IntKind.wrap_u64]; omega
  have W2 : IntKind.u64.wrap (now - m.last) = now - m.last := by rw [IntKind.wrap_u64]; omega
  have W3 : wrap64 (now - m.last) = now - m.last := by unfold wrap64; omega
  obtain ⟨c0, c1, c2, c3, c4, c5, c6, c7, c8, c9, c10, f7, f10⟩ := h.cells
  have M1 : Mtr (w.setCell ⟨b, 7, none⟩ (.int .i64 now)) b (m1 m now) := h.setLast now
  have B1 : ButB b w (w.setCell ⟨b, 7, none⟩ (.int .i64 now)) := set_but h 7 (.int .i64 now)
  have HM1 := Lib.hid (wMul m.r (now - m.last) g.r0 (by omega) (by omega) (by omega))
  have HM2 := Lib.hid (wMul m.mo (now - m.last) g.mo0 (by omega) (by omega) (by omega))
  have HF1 : Hid (∀ W, Mtr W b (m1 m now) → Calls Try.prog 29 #[.pointer (some ⟨b, 8, none⟩), .agg #[.int .u64 (m.r * (now - m.last) / 18446744073709551616), .int .u64 (m.r * (now - m.last) % 18446744073709551616)], .int .i64 m.bu] W fun e w' =>
      e = .returned (.agg #[.int .u64 (fillL m.fi (m.r * (now - m.last)) m.bu / 18446744073709551616), .int .u64 (fillL m.fi (m.r * (now - m.last)) m.bu % 18446744073709551616)]) ∧ Mtr w' b (m2 m now) ∧ ButB b W w') :=
    Lib.hid (fun W hW => fill_any (b := b) (i := 8) hW rfl _ m.bu _ _ g.f0 g.f1 e1.1 (by omega) g.bu0 g.bu1 rfl rfl)
  have G := Lib.hid g
  have E2 := Lib.hid e2
  have E1 := Lib.hid e1
  clear e1 e2 g1 g2 g3 g4 g5 g
  go_enter Try.func19, Try.ntmps19
  go_wp2_with fail
  obtain ⟨WA, hWA⟩ : ∃ WA, w.setCell ⟨b, 7, none⟩ (.int .i64 now) = WA := ⟨_, rfl⟩
  rw [hWA] at M1 B1 ⊢
  clear hWA c0 c1 c2 c3 c4 c5 c6 c7 c8 c9 c10 f7 f10
  have hbl := M1.lt
  have M1' : Mtr WA.drew b (m1 m now) := M1
  have B1' : ButB b w WA.drew := B1.trans (ButB.of_below (bDr (bRef WA) 1))
  obtain ⟨c0, c1, c2, c3, c4⟩ : Rd WA b m.r m.bu m.mo m.be m.cp := M1.rd
  obtain ⟨c0', c1', c2', c3', c4'⟩ : Rd (WA.alloc (.cells #[.int .u64 0, .int .u64 0] 66)) b m.r m.bu m.mo m.be m.cp := (M1.alloc _).rd
  go_cut [5] (fun s5 wx => WMid w b m now s5 wx)
  case first =>
    go_region_with (first
      | (go_at_call 30; (with_reducible refine (HM1.out _).mono ?_); rintro e w2 ⟨rfl, hb2⟩; (first | (have N2 := M1.drew.below hb2; have B2 := B1.drew.trans (ButB.of_below hb2)) | (have N2 := (M1.alloc ZZ).drew.below hb2; have B2 := (B1.alloc ZZ).drew.trans (ButB.of_below hb2); have X2 := (NB.new WA 66).drew.below hb2)); have l2 := N2.lt; obtain ⟨d0, d1, d2, d3, d4⟩ : Rd w2 b m.r m.bu m.mo m.be m.cp := N2.rd; obtain ⟨d0', d1', d2', d3', d4'⟩ : Rd (w2.alloc (.cells #[.int .u64 0, .int .u64 0] 66)) b m.r m.bu m.mo m.be m.cp := (N2.alloc _).rd; have Q2 := Lib.hid hb2; clear hb2)
      | (go_at_call 29; (first | (with_reducible refine (HF1.out _ N2).mono ?_); rintro e w3 ⟨rfl, hm3, hk3⟩; (try (have X3 := X2.but hk3 (by have := M1.lt; omega); obtain ⟨xl, x3, y3, fx3, fy3⟩ := id X3)); have B3 := Lib.hid (B2.trans hk3) | (with_reducible refine (HF1.out _ (N2.alloc _)).mono ?_); rintro e w3 ⟨rfl, hm3, hk3⟩; have X3 := (NB.new w2 66).but hk3 (by have := N2.lt; omega); obtain ⟨xl, x3, y3, fx3, fy3⟩ := id X3; have B3 := Lib.hid ((B2.alloc _).trans hk3)); have N3 := Lib.hid hm3; clear hm3 hk3))
    all_goals (go_wp2_with fail; go_meet)
    all_goals (have S1 := B1.size; have S2 := B2.size; first | exact wmid_new N3.out B3.out rfl rfl _ | exact wmid_set N3.out B3.out X3 (by omega) (by omega))
  case rest =>
    obtain ⟨gb, rfl, hm, hk, hl, hn, hx, hy⟩ := hcut
    have KX : RB gb _ _ wc := ⟨hl, hx, hy⟩
    have KB := hk
    have KM := hm
    obtain ⟨c0, c1, c2, c3, c4⟩ : Rd wc b m.r m.bu m.mo m.be m.cp := hm.rd
    have HF2 : Hid (∀ W, Mtr W b (m2 m now) → Calls Try.prog 29 #[.pointer (some ⟨b, 9, none⟩), .agg #[.int .u64 (m.mo * (now - m.last) / 18446744073709551616), .int .u64 (m.mo * (now - m.last) % 18446744073709551616)], .int .i64 m.be] W fun e w' =>
        e = .returned (.agg #[.int .u64 (fillL m.se (m.mo * (now - m.last)) m.be / 18446744073709551616), .int .u64 (fillL m.se (m.mo * (now - m.last)) m.be % 18446744073709551616)]) ∧ Mtr w' b (m3 m now) ∧ ButB b W w') :=
      Lib.hid (fun W hW => fill_any (b := b) (i := 9) hW rfl _ m.be _ _ G.out.s0 G.out.s1 (E2.out).1 (by have := E2.out.2; omega) G.out.be0 G.out.be1 rfl rfl)
    go_wp2_with fail
    go_cut [] (fun wx => Mtr wx b (m3 m now) ∧ ButB b w wx ∧ RB gb (.int .u64 (fillL m.fi (m.r * (now - m.last)) m.bu / 18446744073709551616)) (.int .u64 (fillL m.fi (m.r * (now - m.last)) m.bu % 18446744073709551616)) wx)
    case first =>
      have hbl : b < wc.heap.size := KM.lt
      clear hm hk hl hx hy
      go_region_with (first
        | (go_at_call 30; (with_reducible refine (HM2.out _).mono ?_); rintro e w2 ⟨rfl, hb2⟩; have N2 := KM.drew.below hb2; have B2 := KB.drew.trans (ButB.of_below hb2); have X2 := KX.but ((ButB.of_below (b := b) (bDr (bRef wc) 1)).trans (ButB.of_below hb2)) hn; have l2 := N2.lt; obtain ⟨d0, d1, d2, d3, d4⟩ : Rd w2 b m.r m.bu m.mo m.be m.cp := N2.rd; clear hb2)
        | (go_at_call 29; (with_reducible refine (HF2.out _ N2).mono ?_); rintro e w3 ⟨rfl, hm3, hk3⟩; have X3 := X2.but hk3 hn; have N3 := Lib.hid hm3; have B3 := Lib.hid (B2.trans hk3); clear hm3 hk3))
      all_goals (go_wp2_with fail; go_meet; exact ⟨N3.out, B3.out, X3⟩)
    case rest =>
      obtain ⟨hm', hk', hx'⟩ := hcut
      clear hm hk hl hx hy c0 c1 c2 c3 c4
      have KM := hm'
      obtain ⟨c0, c1, c2, c3, c4⟩ : Rd wc b m.r m.bu m.mo m.be m.cp := hm'.rd
      obtain ⟨hl, hx, hy⟩ := id hx'
      have hbl : b < wc.heap.size := KM.lt
      have hsec : m.cp = true → m.wait now = { m3 m now with se := fillP (fillP m.se (m.mo * (now - m.last)) m.be) (fillL m.fi (m.r * (now - m.last)) m.bu) m.be } := fun h => by
        unfold MS.wait secP m3; rw [if_pos h]
      have hsec0 : m.cp = false → m.wait now = m3 m now := fun h => by
        unfold MS.wait secP m3; rw [if_neg (by rw [h]; simp)]
      have HF3 : Hid (m.cp = true → ∀ W, Mtr W b (m3 m now) → Calls Try.prog 29 #[.pointer (some ⟨b, 9, none⟩), .agg #[.int .u64 (fillL m.fi (m.r * (now - m.last)) m.bu / 18446744073709551616), .int .u64 (fillL m.fi (m.r * (now - m.last)) m.bu % 18446744073709551616)], .int .i64 m.be] W fun e w' =>
          (∃ v, e = .returned v) ∧ Mtr w' b (m.wait now) ∧ ButB b W w') :=
        Lib.hid (fun hc W hW => by
          have p1 := fillL_bd G.out.f1 E1.out.1
          have p2 := fillP_bd G.out.s0 E2.out.1 G.out.be0
          have p3 := E1.out.2
          refine (fill_any (b := b) (i := 9) hW rfl _ m.be _ _ p2.1 p2.2.1 p1.1 (by omega) G.out.be0 G.out.be1 rfl rfl).mono ?_
          rintro e w' ⟨rfl, h1, h2⟩
          exact ⟨⟨_, rfl⟩, by rw [hsec hc]; exact h1, h2⟩)
      cases hcp : m.cp
      · rw [hcp] at c4
        have hs := hsec0 hcp
        clear hsec hsec0 HF3 hx' hm'
        go_wp2_with fail
        go_end0
        exact ⟨rfl, by rw [hs]; exact KM, hk'⟩
      · rw [hcp] at c4
        have HF4 := Lib.hid (HF3.out hcp)
        clear hsec hsec0 HF3 hx' hm'
        go_wp2_with fail
        go_region_with (first | (go_at_call 29; (with_reducible refine (HF4.out _ KM.drew).mono ?_); rintro e w3 ⟨⟨v3, rfl⟩, hm3, hk3⟩; have N3 := Lib.hid hm3; have B3 := Lib.hid (hk'.drew.trans hk3); clear hm3 hk3))
        all_goals (go_wp2_with fail; go_end0; exact ⟨rfl, N3.out, B3.out⟩)

end Go.Proofs.Ytjkgeoipkcjobaa
