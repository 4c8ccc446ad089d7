/- The reference's product. -/
import Derived.Test.YtjkgeoipkcjobaaMdAdd
import Derived.Laws.MakeOwn
namespace Go.Proofs.Ytjkgeoipkcjobaa.Dgs
open Go.RowKit

def cellsOf (os : List Nat) : Array Value := (dv os).toArray

def zeros (n : Nat) : Array Value := cellsOf (List.replicate n 0)
theorem zeros_eq (n : Nat) : madeCells (Value.int .i64 0).cells n = zeros n := by
  apply Array.ext
  · simp [madeCells, zeros, cellsOf, dv]
  · intro i h1 h2
    simp [madeCells, zeros, cellsOf, dv, Value.cells, Nat.mod_one]
theorem make_zeros (n : Nat) (hn : n ≤ 1000000) (w : World) :
    (Instr.makeSlice 37 (.int .i64 (n : Int)) (.int .i64 (n : Int))).run Try.prog w = .ok (.slice (some ⟨w.heap.size, 0, none⟩) n n) (w.alloc (.cells (zeros n) 3)) := by
  obtain ⟨i0, hi, hz0, hz1, hz2⟩ := info_parts Try.infoInt
  have hr := run_make (P := Try.prog) w 37 3 i0 (.int .i64 0) Try.underlying37 hi hz0 .i64 .i64 n n (by omega) (by omega) (by rw [hz2]; omega) (by omega)
  simp only [Int.toNat_natCast] at hr
  rw [hr, hz1, Nat.mul_one, zeros_eq]

/-- A block of the call's own that holds these digits. -/
def Arr (w0 w : World) (g : Nat) (os : List Nat) : Prop :=
  w.heap[g]? = some (.cells (cellsOf os) 3 (0, 0)) ∧ Below w0.heap.size w0 w ∧ w0.heap.size ≤ g ∧ Dg.Small os

theorem Arr.cell {w0 w : World} {g k : Nat} {os : List Nat} (h : Arr w0 w g os) (hk : k < os.length) : w.cell? ⟨g, k, none⟩ = some (.int .i64 ((os.getD k 0 : Nat) : Int)) := by
  rw [cell_of_row w g k _ _ _ h.1]
  simp [cellsOf, dv, List.getD_eq_getElem?_getD, List.getElem?_eq_getElem hk]
theorem Arr.frozen {w0 w : World} {g : Nat} {os : List Nat} (h : Arr w0 w g os) (k : Nat) : w.frozen? ⟨g, k, none⟩ = false := by
  have := h.1
  simp [World.frozen?, this]
theorem Arr.set {w0 w : World} {g k d : Nat} {os : List Nat} (h : Arr w0 w g os) (hd : d < 65536) : Arr w0 (w.setCell ⟨g, k, none⟩ (.int .i64 (d : Int))) g (os.set k d) := by
  refine ⟨?_, h.2.1.setCell h.2.2.1 _, h.2.2.1, fun x hx => ?_⟩
  · have := h.1
    simp [World.setCell, Array.getElem?_modify, this, cellsOf, dv, List.map_set]
  · rcases List.mem_or_eq_of_mem_set hx with h1 | h1
    · exact h.2.2.2 x h1
    · omega
theorem Arr.lt {w0 w : World} {g : Nat} {os : List Nat} (h : Arr w0 w g os) : g < w.heap.size := by
  have := h.1
  rcases Nat.lt_or_ge g w.heap.size with hl | hl
  · exact hl
  · rw [Array.getElem?_eq_none hl] at this; cases this
theorem Arr.below {w0 w w' : World} {g : Nat} {os : List Nat} (h : Arr w0 w g os) (hb : Below w.heap.size w w') : Arr w0 w' g os :=
  ⟨(hb.block g h.lt).trans h.1, h.2.1.trans (hb.mono h.2.1.size), h.2.2⟩
theorem Arr.drewN {w0 w : World} {g : Nat} {os : List Nat} (h : Arr w0 w g os) (n : Nat) : Arr w0 (w.drewN n) g os := ⟨h.1, bDr' h.2.1 n, h.2.2⟩
theorem Arr.bel {w0 w : World} {g : Nat} {os : List Nat} (h : Arr w0 w g os) : Below w0.heap.size w0 w := h.2.1
theorem Arr.rd {w0 w : World} {g : Nat} {os : List Nat} (h : Arr w0 w g os) : Rd w g 0 os := fun _ => ⟨h.lt, fun k hk => by rw [Nat.zero_add]; exact h.cell hk⟩

theorem Arr.set' {w0 w : World} {g k d : Nat} {os : List Nat} {z : Int} (h : Arr w0 w g os) (hz : z = (d : Int)) (hd : d < 65536) : Arr w0 (w.setCell ⟨g, k, none⟩ (.int .i64 z)) g (os.set k d) := by
  rw [hz]; exact h.set hd

theorem trim_arr {w0 w : World} {g : Nat} {os : List Nat} {n : Nat} (h : Arr w0 w g os) (hn : os.length = n) (hl : n ≤ 1000000) :
    Calls Try.prog 34 #[.slice (some ⟨g, 0, none⟩) n n] w (TPost w0.heap.size w (Dg.val os)) := by
  subst hn
  exact trim_any w0.heap.size g 0 os.length h.2.2.1 os w h.2.2.2 (Nat.le_refl _) hl h.rd

def MulOut (w : World) (xs ys : List Nat) (iv : Value) (wr : World) : Prop :=
  ∃ (i : Nat) (os : List Nat), iv = .int .i64 (i : Int) ∧ i ≤ xs.length ∧ os.length = xs.length + ys.length + 1 ∧ Arr w wr w.heap.size os ∧ Dg.val os = Dg.val (xs.take i) * Dg.val ys
def MulIn (w : World) (xs ys : List Nat) (i : Nat) (cv kv : Value) (wr : World) : Prop :=
  ∃ (C k : Nat) (os : List Nat), cv = .int .i64 (C : Int) ∧ kv = .int .i64 (k : Int) ∧ C < 65536 ∧ k ≤ ys.length + 1 ∧ os.length = xs.length + ys.length + 1 ∧ Arr w wr w.heap.size os ∧
    Dg.val os + 65536 ^ (i + k) * C = Dg.val (xs.take i) * Dg.val ys + 65536 ^ i * (xs.getD i 0 * Dg.val (ys.take k))

theorem mul_next {w w1 : World} {xs ys os : List Nat} {i k C o y S : Nat} {ci ki : Int} (hj : i + k < xs.length + ys.length + 1) (ho : o = os.getD (i + k) 0) (hy : y = ys.getD k 0) (hS : S = C + o + xs.getD i 0 * y)
    (hc : ci = ((S / 65536 : Nat) : Int)) (hk : ki = ((k + 1 : Nat) : Int)) (hkl : k ≤ ys.length) (hl : os.length = xs.length + ys.length + 1)
    (hv : Dg.val os + 65536 ^ (i + k) * C = Dg.val (xs.take i) * Dg.val ys + 65536 ^ i * (xs.getD i 0 * Dg.val (ys.take k)))
    (ha : Arr w w1 w.heap.size (os.set (i + k) (S % 65536))) (hC : S / 65536 < 65536 := by omega) : MulIn w xs ys i (.int .i64 ci) (.int .i64 ki) w1 :=
  ⟨S / 65536, k + 1, _, by rw [hc], by rw [hk], hC, by omega, by simp [hl], ha, Dg.mul_step (by omega) ho hy hS hv⟩

set_option maxHeartbeats 4000000 in
theorem mul_core (b1 o1 c1 b2 o2 c2 : Nat) (xs ys : List Nat) (w : World) (hx : Dg.Small xs) (hy : Dg.Small ys) (lx : xs.length ≤ 100000) (ly : ys.length ≤ 100000) (rx : Rd w b1 o1 xs) (ry : Rd w b2 o2 ys) :
    Calls Try.prog 24 #[.slice (some ⟨b1, o1, none⟩) xs.length c1, .slice (some ⟨b2, o2, none⟩) ys.length c2] w (NumPost w (Dg.val xs * Dg.val ys)) := by
  obtain ⟨i0, hi, hz0, hz1, hz2⟩ := info_parts Try.infoInt
  obtain ⟨n, hn⟩ : ∃ n, n = xs.length := ⟨_, rfl⟩
  obtain ⟨m, hm⟩ : ∃ m, m = ys.length := ⟨_, rfl⟩
  rw [← hn] at lx ⊢
  rw [← hm] at ly ⊢
  have Hn := Lib.hid hn
  have Hm := Lib.hid hm
  have Rx := Lib.hid rx
  have Ry := Lib.hid ry
  clear hn hm rx ry
  have hmk := fun W => make_zeros (n + m + 1) (by omega) W
  rw [show ((n + m + 1 : Nat) : Int) = (n : Int) + (m : Int) + 1 from by omega] at hmk
  go_enter Try.func24, Try.ntmps24
  go_wp2_with fail
  go_loopw [18] (fun iv wr => MulOut w xs ys iv wr) (fun iv _ => n - (intOf iv).toNat)
  case atStart => exact ⟨0, List.replicate (n + m + 1) 0, rfl, by omega, by rw [← Hn.out, ← Hm.out]; simp, ⟨heap_alloc_new w _, (Below.refl _ _).alloc (Nat.le_refl _) _, Nat.le_refl _, Dg.small_replicate _⟩, by rw [Dg.val_replicate]; simp [Dg.val]⟩
  case round =>
    obtain ⟨i, os, rfl, hi', hl, harr, hv⟩ := hrel
    rw [← Hn.out] at hi'
    have Hl := Lib.hid hl
    have Ha := Lib.hid harr
    have Hv := Lib.hid hv
    have hlen : os.length = n + m + 1 := by rw [hl, Hn.out, Hm.out]
    have HLEN := Lib.hid hlen
    clear hl harr hv hlen
    rcases Nat.lt_or_ge i n with gi | gi
    · have cx := Rx.out.of_below Ha.out.2.1 (k := i) (by rw [← Hn.out]; exact gi)
      go_wp2_with fail
      obtain ⟨wo, rfl⟩ : ∃ wo : World, wo = wr := ⟨_, rfl⟩
      go_loopw [7, 8] (fun cv kv wr => MulIn w xs ys i cv kv wr) (fun _ kv _ => m + 2 - (intOf kv).toNat)
      case atStart => exact ⟨0, 0, os, rfl, rfl, by omega, by omega, Hl.out, Ha.out, by rw [Hv.out]; simp [Dg.val]⟩
      case round =>
        obtain ⟨C, k, os2, rfl, rfl, hC, hk, hl2, ha2, hv2⟩ := hrel
        have hkm0 : 0 < C → k ≤ m := fun h => by rw [Hm.out]; exact Dg.mul_index hx hy (by rw [← Hn.out]; exact gi) h hv2
        have Hv2 := Lib.hid hv2
        have Ha2 := Lib.hid ha2
        have Hl2 := Lib.hid hl2
        have hlen2 : os2.length = n + m + 1 := by rw [hl2, Hn.out, Hm.out]
        have HLEN2 := Lib.hid hlen2
        clear hv2 ha2 hl2 hlen2 cx
        by_cases gy : k < m
        · clear hkm0
          have hj : i + k < n + m + 1 := by omega
          have cx := Rx.out.of_below Ha2.out.2.1 (k := i) (by rw [← Hn.out]; exact gi)
          have sx := hx.getD i
          obtain ⟨x, hxe⟩ : ∃ x, x = xs.getD i 0 := ⟨_, rfl⟩
          rw [← hxe] at cx sx
          have Hx := Lib.hid hxe
          have cy := Ry.out.of_below Ha2.out.2.1 (k := k) (by rw [← Hm.out]; exact gy)
          have sy := hy.getD k
          obtain ⟨y, hye⟩ : ∃ y, y = ys.getD k 0 := ⟨_, rfl⟩
          rw [← hye] at cy sy
          have Hy := Lib.hid hye
          have co := Ha2.out.cell (k := i + k) (by rw [HLEN2.out]; exact hj)
          have so := Ha2.out.2.2.2.getD (i + k)
          obtain ⟨o, hoe⟩ : ∃ o, o = os2.getD (i + k) 0 := ⟨_, rfl⟩
          rw [← hoe] at co so
          have HO := Lib.hid hoe
          have fo := Ha2.out.frozen (i + k)
          have hp : x * y ≤ 65535 * 65535 := Nat.mul_le_mul (by omega) (by omega)
          obtain ⟨p, hpe⟩ : ∃ p, p = x * y := ⟨_, rfl⟩
          rw [← hpe] at hp
          have HP := Lib.hid hpe
          have ep : (x : Int) * (y : Int) = (p : Int) := by rw [hpe, Int.natCast_mul]
          have i1 : (0 : Int) ≤ (i : Int) := by omega
          have i2 : (i : Int) < (n : Int) := by omega
          have i3 : (0 : Int) ≤ (k : Int) := by omega
          have i4 : (k : Int) < (m : Int) := by omega
          clear hxe hye hoe hpe
          go_wp2_with fail
          go_quiet (fail)
          go_wp2_with fail
          go_roundw
          case rel => exact mul_next (S := C + o + p) (by rw [← Hn.out, ← Hm.out]; omega) HO.out Hy.out (by rw [HP.out, ← Hx.out]) (by omega) (by omega) (by rw [← Hm.out]; omega) Hl2.out Hv2.out (by first | exact ((Ha2.out.set' (by omega) (by omega)).drewN _) | exact ((Ha2.out.drewN _).set' (by omega) (by omega)))
          case measure => simp [intOf]; omega
        · have gy' : m ≤ k := by omega
          rcases Nat.eq_zero_or_pos C with h0 | h0
          · subst h0
            go_wp2_with fail
            go_roundw
            case rel => exact ⟨i + 1, os2, by simp, by rw [← Hn.out]; omega, Hl2.out, Ha2.out, Dg.mul_end (by rw [← Hm.out]; exact gy') Hv2.out⟩
            case measure => simp [intOf]; try omega
          · have hkm := hkm0 h0
            clear hkm0
            obtain rfl : k = m := by omega
            have hj : i + k < n + k + 1 := by omega
            have co := Ha2.out.cell (k := i + k) (by rw [HLEN2.out]; exact hj)
            have so := Ha2.out.2.2.2.getD (i + k)
            obtain ⟨o, hoe⟩ : ∃ o, o = os2.getD (i + k) 0 := ⟨_, rfl⟩
            rw [← hoe] at co so
            have HO := Lib.hid hoe
            have fo := Ha2.out.frozen (i + k)
            have HC0 := Lib.hid h0
            have h0' : (0 : Int) < (C : Int) := by omega
            clear hoe
            go_wp2_with fail
            go_roundw
            case rel => exact mul_next (S := C + o) (y := 0) (by rw [← Hn.out, ← Hm.out]; omega) HO.out (getD_ge (by rw [← Hm.out]; exact Nat.le_refl _)).symm (by simp) (by omega) (by omega) (by rw [← Hm.out]; omega) Hl2.out Hv2.out (by first | exact Ha2.out.set' (by omega) (by omega) | exact ((Ha2.out.set' (by omega) (by omega)).drewN _))
            case measure => simp [intOf]
    · obtain rfl : i = n := by omega
      go_wp2_with (go_at_call 34; refine (trim_arr Ha.out HLEN.out (by omega)).mono ?_; rintro e w4 ⟨v4, rfl, hn4, hb4, hf4⟩)
      go_ret
      exact NumPost.from ⟨_, rfl, hn4, hb4, hf4⟩ Ha.out.2.1 (by rw [Hv.out, Hn.out, List.take_length])

theorem mul_any {va vb : Value} {a b L : Nat} {w : World} (ha : Num w va a) (hb : Num w vb b) (la : a < 65536 ^ L) (lb : b < 65536 ^ L) (hL : L ≤ 100000) :
    Calls Try.prog 24 #[va, vb] w (NumPost w (a * b)) := by
  obtain ⟨b1, o1, c1, xs, rfl, h1, r1, d1⟩ := ha
  obtain ⟨b2, o2, c2, ys, rfl, h2, r2, d2⟩ := hb
  have := mul_core b1 o1 c1 b2 o2 c2 xs ys w d1.1 d2.1 (Nat.le_trans (d1.len_le la) hL) (Nat.le_trans (d2.len_le lb) hL) r1 r2
  rw [d1.2.1, d2.2.1] at this
  exact this

end Go.Proofs.Ytjkgeoipkcjobaa.Dgs
