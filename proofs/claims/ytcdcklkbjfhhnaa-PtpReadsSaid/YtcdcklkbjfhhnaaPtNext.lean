/- Package ptp: the closure that tells the next number of the bytes. -/
import Derived.Test.YtcdcklkbjfhhnaaPtText
namespace Go.Proofs.Ytcdcklkbjfhhnaa
open Go.RowKit Go.Joins

/-- A number of 64 bits as an int. -/
def w64 (x : Nat) : Int := if x < 9223372036854775808 then (x : Int) else (x : Int) - 18446744073709551616
theorem w64_low {x : Nat} (h : x < 9223372036854775808) : w64 x = (x : Int) := if_pos h
theorem fold_lt (l : List Nat) (h : Crc.Bytes l) (a : Nat) : l.foldl (fun a d => a * 256 + d) a + 1 ≤ (a + 1) * 256 ^ l.length := by
  induction l generalizing a with
  | nil => simp
  | cons d l ih =>
    have h1 := ih (fun x hx => h x (by simp [hx])) (a * 256 + d)
    have h2 := h d (by simp)
    rw [List.foldl_cons, List.length_cons, Nat.pow_succ]
    refine Nat.le_trans h1 ?_
    have h3 : (a * 256 + d + 1) * 256 ^ l.length ≤ ((a + 1) * 256) * 256 ^ l.length := Nat.mul_le_mul_right _ (by omega)
    refine Nat.le_trans h3 (Nat.le_of_eq ?_)
    rw [Nat.mul_assoc, Nat.mul_comm 256]
theorem unum_lt {l : List Nat} (h : Crc.Bytes l) : unum l < 256 ^ l.length := by
  have := fold_lt l h 0
  unfold unum
  omega
theorem unum_small {l : List Nat} (h : Crc.Bytes l) (hl : l.length ≤ 7) : unum l < 72057594037927936 := by
  refine Nat.lt_of_lt_of_le (unum_lt h) ?_
  exact Nat.le_trans (Nat.pow_le_pow_right (by decide) hl) (by decide)

/-- One byte more: 'or' of numbers that share no bit. -/
theorem or_byte (x c : Nat) (hx : x < 72057594037927936) (hc : c < 256) : bits .or .i64 (IntKind.i64.wrap ((x : Int) * 256)) (c : Int) = w64 (x * 256 + c) := by
  have hw : (BitVec.ofInt 64 (IntKind.i64.wrap ((x : Int) * 256))).toNat = x * 256 := by
    rw [BitVec.toNat_ofInt, IntKind.wrap_i64]; omega
  have hor : x * 256 ||| c = x * 256 + c := by
    have := Nat.two_pow_add_eq_or_of_lt (i := 8) (b := c) (by omega) x
    rw [Nat.mul_comm x 256]; exact this.symm
  show IntKind.i64.wrap ((BitVec.ofInt 64 (IntKind.i64.wrap ((x : Int) * 256)) ||| BitVec.ofInt 64 (c : Int)).toNat : Nat) = _
  rw [BitVec.toNat_or, hw, BitVec.toNat_ofInt, show ((c : Int) % ((2 ^ 64 : Nat) : Int)).toNat = c by omega, hor, IntKind.wrap_i64]
  unfold w64
  split <;> omega

theorem or_byte2 (x c : Nat) (hx : x < 72057594037927936) (hc : c < 256) : bits .or .i64 (wrap64 ((x : Int) * 256)) (c : Int) = w64 (x * 256 + c) := by
  have e : wrap64 ((x : Int) * 256) = IntKind.i64.wrap ((x : Int) * 256) := by rw [IntKind.wrap_i64]; unfold wrap64; omega
  rw [e]
  exact or_byte x c hx hc
/-- The state of the reading: how many bytes are read, and whether some are missing. -/
structure St where
  k : Nat
  mi : Bool
def nst (xs : List Nat) (s : St) (n : Nat) : St := if s.mi || decide (xs.length < s.k + n) then ⟨s.k, true⟩ else ⟨s.k + n, false⟩
def nval (xs : List Nat) (s : St) (n : Nat) : Int := if s.mi || decide (xs.length < s.k + n) then 0 else w64 (unum ((xs.drop s.k).take n))
/-- What is left of the bytes, in the block gr; are some missing, in the block gm. -/
def NS (w0 : World) (b o : Nat) (xs : List Nat) (gm gr : Nat) (s : St) (W : World) : Prop :=
  W.heap[gm]? = some (.cells #[.bool s.mi] 4 (0, 0)) ∧ (∃ oo c, W.heap[gr]? = some (.cells #[.slice (some ⟨b, oo, none⟩) (xs.length - s.k) c] 30 (0, 0)) ∧ xs.length - s.k ≤ c ∧ (s.k < xs.length → oo = o + s.k)) ∧
  Below w0.heap.size w0 W ∧ s.k ≤ xs.length ∧ w0.heap.size ≤ gm ∧ w0.heap.size ≤ gr ∧ gm ≠ gr
/-- All but two blocks are as they were. -/
def But2 (gm gr : Nat) (W W' : World) : Prop := W'.heap.size = W.heap.size ∧ ∀ i, i ≠ gm → i ≠ gr → W'.heap[i]? = W.heap[i]?
theorem But2.set1 (gm gr i : Nat) (v : Value) (W : World) : But2 gm gr W (W.setCell ⟨gm, i, none⟩ v) := by
  refine ⟨by simp, fun j h1 _ => heap_setCell_other W _ j v h1⟩
theorem But2.set2 (gm gr i : Nat) (v : Value) (W : World) : But2 gm gr W (W.setCell ⟨gr, i, none⟩ v) := by
  refine ⟨by simp, fun j _ h1 => heap_setCell_other W _ j v h1⟩
theorem But2.trans {gm gr : Nat} {W W1 W2 : World} (h : But2 gm gr W W1) (k : But2 gm gr W1 W2) : But2 gm gr W W2 :=
  ⟨k.1.trans h.1, fun i h1 h2 => (k.2 i h1 h2).trans (h.2 i h1 h2)⟩

theorem take_snoc {xs : List Nat} {k : Nat} (h : k < xs.length) : xs.take (k + 1) = xs.take k ++ [xs.getD k 0] := by
  rw [List.take_succ_eq_append_getElem h]; simp [List.getD_eq_getElem?_getD, h]
def NxRel (l : List Nat) (xv iv : Value) : Prop := ∃ j : Nat, j ≤ l.length ∧ iv = .int .i64 (j : Int) ∧ xv = .int .i64 (w64 (unum (l.take j)))

def NxPost (W : World) (gm gr b oo n k : Nat) (l : List Nat) (e : Ending) (w' : World) : Prop :=
  e = .returned (.int .i64 (w64 (unum l))) ∧ ∃ o2 c2, w' = (W.setCell ⟨gm, 0, none⟩ (.bool false)).setCell ⟨gr, 0, none⟩ (.slice (some ⟨b, o2, none⟩) (k - n) c2) ∧ k - n ≤ c2 ∧ (n < k → o2 = oo + n)
set_option maxHeartbeats 2000000 in
theorem next_ok (W : World) (gm gr b oo c n k : Nat) (l : List Nat) (hm : W.cell? ⟨gm, 0, none⟩ = some (.bool false)) (hr : W.cell? ⟨gr, 0, none⟩ = some (.slice (some ⟨b, oo, none⟩) k c))
    (fm : W.frozen? ⟨gm, 0, none⟩ = false) (fr : W.frozen? ⟨gr, 0, none⟩ = false) (hn : n ≤ k) (hk : k < 140737488355328) (hc : k ≤ c) (hne : gm ≠ gr) (hbm : b ≠ gm) (hn8 : n ≤ 8) (hn1 : 1 ≤ n) (hl : Hid (l.length = n)) (hx : Hid (Crc.Bytes l))
    (hd : Hid (∀ j, j < n → W.cell? ⟨b, oo + j, none⟩ = some (.int .u8 ((l.getD j 0 : Nat) : Int)))) :
    Calls Try.prog 25 #[.int .i64 (n : Int), .pointer (some ⟨gm, 0, none⟩), .pointer (some ⟨gr, 0, none⟩)] W (NxPost W gm gr b oo n k l) := by
  have hlt : ¬ (k : Int) < (n : Int) := by omega
  rcases Nat.lt_or_ge n c with hnc | hnc
  · go_enter Try.func25, Try.ntmps25
    go_wp2_with fail
    go_loop [5, 20] (fun xv iv => NxRel l xv iv) (fun _ iv => n - (intOf iv).toNat)
    case atStart => exact ⟨0, by omega, rfl, by simp [unum, w64]⟩
    case round =>
      obtain ⟨j, hj, rfl, rfl⟩ := hrel
      rw [hl.out] at hj
      rcases Nat.lt_or_ge j n with g | g
      · have hd2 : decide ((j : Int) < (n : Int)) = true := decide_eq_true (by omega)
        have hs := unum_small (Crc.bytes_take hx.out j) (by rw [List.length_take]; omega)
        have hcell := hd.out j g
        have hb := Crc.getD_byte hx.out j
        have hsn := unum_snoc (l.take j) (l.getD j 0)
        rw [← take_snoc (by rw [hl.out]; exact g)] at hsn
        rw [w64_low (by omega)]
        obtain ⟨x, hxe⟩ : ∃ x, x = unum (l.take j) := ⟨_, rfl⟩
        obtain ⟨y, hye⟩ : ∃ y, y = l.getD j 0 := ⟨_, rfl⟩
        rw [← hxe] at hs hsn ⊢
        rw [← hye] at hb hcell hsn
        have Hsn := Lib.hid hsn
        have hor := Lib.hid (or_byte2 x y hs hb)
        clear hxe hye hsn
        go_wp2_with fail
        go_round
        case rel => exact ⟨j + 1, by rw [hl.out]; omega, by go_num, by rw [Hsn.out]; exact congrArg _ hor.out⟩
        case measure => simp [intOf]; omega
      · obtain rfl : j = n := by omega
        rw [List.take_of_length_le (by rw [hl.out]; omega)]
        go_wp2_with fail
        go_ret
        exact ⟨rfl, _, _, rfl, by omega, fun _ => rfl⟩
  · obtain rfl : n = k := by omega
    obtain rfl : n = c := by omega
    go_enter Try.func25, Try.ntmps25
    go_wp2_with fail
    go_loop [5, 20] (fun xv iv => NxRel l xv iv) (fun _ iv => n - (intOf iv).toNat)
    case atStart => exact ⟨0, by omega, rfl, by simp [unum, w64]⟩
    case round =>
      obtain ⟨j, hj, rfl, rfl⟩ := hrel
      rw [hl.out] at hj
      rcases Nat.lt_or_ge j n with g | g
      · have hd2 : decide ((j : Int) < (n : Int)) = true := decide_eq_true (by omega)
        have hs := unum_small (Crc.bytes_take hx.out j) (by rw [List.length_take]; omega)
        have hcell := hd.out j g
        have hb := Crc.getD_byte hx.out j
        have hsn := unum_snoc (l.take j) (l.getD j 0)
        rw [← take_snoc (by rw [hl.out]; exact g)] at hsn
        rw [w64_low (by omega)]
        obtain ⟨x, hxe⟩ : ∃ x, x = unum (l.take j) := ⟨_, rfl⟩
        obtain ⟨y, hye⟩ : ∃ y, y = l.getD j 0 := ⟨_, rfl⟩
        rw [← hxe] at hs hsn ⊢
        rw [← hye] at hb hcell hsn
        have Hsn := Lib.hid hsn
        have hor := Lib.hid (or_byte2 x y hs hb)
        clear hxe hye hsn
        go_wp2_with fail
        go_round
        case rel => exact ⟨j + 1, by rw [hl.out]; omega, by go_num, by rw [Hsn.out]; exact congrArg _ hor.out⟩
        case measure => simp [intOf]; omega
      · obtain rfl : j = n := by omega
        rw [List.take_of_length_le (by rw [hl.out]; omega)]
        go_wp2_with fail
        go_ret
        exact ⟨rfl, oo, 0, by rw [Nat.sub_self], by omega, fun h => absurd h (by omega)⟩

theorem next_gone (W : World) (gm gr n : Nat) (hm : W.cell? ⟨gm, 0, none⟩ = some (.bool true)) (fm : W.frozen? ⟨gm, 0, none⟩ = false) :
    Calls Try.prog 25 #[.int .i64 (n : Int), .pointer (some ⟨gm, 0, none⟩), .pointer (some ⟨gr, 0, none⟩)] W fun e w' => e = .returned (.int .i64 0) ∧ w' = W.setCell ⟨gm, 0, none⟩ (.bool true) := by
  go_enter Try.func25, Try.ntmps25
  go_wp2_with fail
  go_ret
  exact ⟨rfl, rfl⟩
theorem next_short (W : World) (gm gr n k c : Nat) (p : Option Addr) (hm : W.cell? ⟨gm, 0, none⟩ = some (.bool false)) (fm : W.frozen? ⟨gm, 0, none⟩ = false) (hr : W.cell? ⟨gr, 0, none⟩ = some (.slice p k c)) (hk : (k : Int) < (n : Int)) :
    Calls Try.prog 25 #[.int .i64 (n : Int), .pointer (some ⟨gm, 0, none⟩), .pointer (some ⟨gr, 0, none⟩)] W fun e w' => e = .returned (.int .i64 0) ∧ w' = W.setCell ⟨gm, 0, none⟩ (.bool true) := by
  go_enter Try.func25, Try.ntmps25
  go_wp2_with fail
  go_ret
  exact ⟨rfl, rfl⟩

theorem sub_getD {xs : List Nat} {k n j : Nat} (hj : j < n) : ((xs.drop k).take n).getD j 0 = xs.getD (k + j) 0 := by
  rw [List.getD_eq_getElem?_getD, List.getD_eq_getElem?_getD, List.getElem?_take, if_pos hj, List.getElem?_drop]
/-- The next number, whatever the state. -/
theorem next_any {w0 W : World} {b o gm gr : Nat} {xs : List Nat} {s : St} (n : Nat) (z : Int) (hz : z = (n : Int)) (h : NS w0 b o xs gm gr s W) (hx : Crc.Bytes xs) (hr : Rd w0 b o xs) (hl : xs.length < 140737488355328) (hn1 : 1 ≤ n) (hn8 : n ≤ 8) :
    Calls Try.prog 25 #[.int .i64 z, .pointer (some ⟨gm, 0, none⟩), .pointer (some ⟨gr, 0, none⟩)] W fun e W' => e = .returned (.int .i64 (nval xs s n)) ∧ NS w0 b o xs gm gr (nst xs s n) W' ∧ But2 gm gr W W' := by
  subst hz
  obtain ⟨h1, ⟨oo, c, h2, hc, ho⟩, hb, hk, hgm, hgr, hne⟩ := h
  have cm : W.cell? ⟨gm, 0, none⟩ = some (.bool s.mi) := cell_of_row W gm 0 _ _ _ h1
  have cr : W.cell? ⟨gr, 0, none⟩ = some (.slice (some ⟨b, oo, none⟩) (xs.length - s.k) c) := cell_of_row W gr 0 _ _ _ h2
  have fm : W.frozen? ⟨gm, 0, none⟩ = false := frozen_of_row W gm 0 _ _ h1
  have fr : W.frozen? ⟨gr, 0, none⟩ = false := frozen_of_row W gr 0 _ _ h2
  have sm : ∀ v, (W.setCell ⟨gm, 0, none⟩ (.bool v)).heap[gm]? = some (.cells #[.bool v] 4 (0, 0)) := fun v => heap_setCell_same W gm 0 _ _ _ h1
  have sr : ∀ v, (W.setCell ⟨gm, 0, none⟩ v).heap[gr]? = some (.cells #[.slice (some ⟨b, oo, none⟩) (xs.length - s.k) c] 30 (0, 0)) := fun v => (heap_setCell_other W ⟨gm, 0, none⟩ gr v (fun e => hne e.symm)).trans h2
  obtain ⟨k, mi⟩ := s
  dsimp only at *
  cases mi with
  | true =>
    refine (next_gone W gm gr n cm fm).mono fun e W' hh => ?_
    obtain ⟨rfl, rfl⟩ := hh
    refine ⟨by simp [nval], ?_, But2.set1 _ _ _ _ _⟩
    rw [show nst xs ⟨k, true⟩ n = ⟨k, true⟩ by simp [nst]]
    exact ⟨sm true, ⟨oo, c, sr _, hc, ho⟩, hb.setCell hgm _, hk, hgm, hgr, hne⟩
  | false =>
    rcases Nat.lt_or_ge xs.length (k + n) with hs | hs
    · refine (next_short W gm gr n _ c _ cm fm cr (by omega)).mono fun e W' hh => ?_
      obtain ⟨rfl, rfl⟩ := hh
      refine ⟨by simp [nval, hs], ?_, But2.set1 _ _ _ _ _⟩
      rw [show nst xs ⟨k, false⟩ n = ⟨k, true⟩ by simp [nst, hs]]
      exact ⟨sm true, ⟨oo, c, sr _, hc, ho⟩, hb.setCell hgm _, hk, hgm, hgr, hne⟩
    · have hkl : k < xs.length := by omega
      have hoo := ho hkl
      subst hoo
      obtain ⟨hlt, hcell⟩ := hr (by omega)
      refine (next_ok W gm gr b (o + k) c n (xs.length - k) ((xs.drop k).take n) cm cr fm fr (by omega) (by omega) hc hne (by omega) hn8 hn1 (Lib.hid (by rw [List.length_take, List.length_drop]; omega)) (Lib.hid (Crc.bytes_take (fun x hm => hx x (List.mem_of_mem_drop hm)) n)) (Lib.hid fun j hj => ?_)).mono fun e W' hh => ?_
      · rw [hb.cell (p := ⟨b, o + k + j, none⟩) hlt, sub_getD hj, Nat.add_assoc]
        exact hcell (k + j) (by omega)
      · obtain ⟨rfl, o2, c2, rfl, hc2, ho2⟩ := hh
        have hs' : ¬ xs.length < k + n := by omega
        refine ⟨by simp [nval, hs'], ?_, (But2.set1 _ _ _ _ _).trans (But2.set2 _ _ _ _ _)⟩
        rw [show nst xs ⟨k, false⟩ n = ⟨k + n, false⟩ by simp [nst, hs']]
        refine ⟨(heap_setCell_other _ ⟨gr, 0, none⟩ gm _ hne).trans (sm false), ⟨o2, c2, ?_, ?_, ?_⟩, (hb.setCell hgm _).setCell hgr _, by show k + n ≤ _; omega, hgm, hgr, hne⟩
        · have := heap_setCell_same (W.setCell ⟨gm, 0, none⟩ (.bool false)) gr 0 _ _ (.slice (some ⟨b, o2, none⟩) (xs.length - k - n) c2) (sr _)
          rw [this, Nat.sub_sub]; rfl
        · show xs.length - (k + n) ≤ c2; omega
        · intro h3
          have h3' : k + n < xs.length := h3
          have := ho2 (by omega)
          show o2 = o + (k + n); omega

end Go.Proofs.Ytcdcklkbjfhhnaa
