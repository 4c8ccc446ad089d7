/- The reference's numbers out of two words. -/
import Derived.Test.YtfohfpeeghnocaaDig2
namespace Go.Proofs.Ytfohfpeeghnocaa
open Go.RowKit

def PairRel (w : World) (lo : Nat) (xv v iv : Value) (wr : World) : Prop :=
  ∃ (X k : Nat) (os : List Nat), xv = .int .u64 (X : Int) ∧ iv = .int .i64 (k : Int) ∧ os.length = k ∧ k ≤ 4 ∧ OwnD w wr v os ∧ Dg.val os + 65536 ^ k * X = lo ∧ X < 65536 ^ (4 - k) ∧ X ≤ lo

theorem pair_step {w w1 : World} {lo X k : Nat} {v' : Value} {os : List Nat} (hk : os.length = k) (h4 : k < 4) (hv : Dg.val os + 65536 ^ k * X = lo) (hX : X < 65536 ^ (4 - k)) (hxx : X ≤ lo)
    (h1 : OwnD w w1 v' (os ++ [X % 65536])) : PairRel w lo (.int .u64 ((X : Int) / 65536)) v' (.int .i64 ((k : Int) + 1)) w1 := by
  subst hk
  have := Dg.step_val hv
  rw [List.length_append, List.length_singleton] at this
  exact ⟨X / 65536, os.length + 1, os ++ [X % 65536], by rw [Int.natCast_ediv]; rfl, by simp, by simp, by omega, h1, this, Dg.step_lt h4 hX, by omega⟩

theorem pair_val {os ds : List Nat} {X lo hi : Nat} (h4 : os.length = 4) (hX : X < 65536 ^ (4 - 4)) (hv : Dg.val os + 65536 ^ 4 * X = lo) (hd : Dg.val ds = hi) : Dg.val (os ++ ds) = hi * 18446744073709551616 + lo := by
  have h0 : X = 0 := by simpa using hX
  subst h0
  rw [Dg.val_append, h4, hd]
  omega

set_option maxHeartbeats 1000000 in
theorem pair_any (h l : Nat) (hh : h < 18446744073709551616) (hl : l < 18446744073709551616) (w : World) :
    Calls Try.prog 13 #[.int .u64 (h : Int), .int .u64 (l : Int)] w (NumPost w (h * 18446744073709551616 + l)) := by
  obtain ⟨i0, hi, hz0, hz1, hz2⟩ := info_parts Try.infoInt
  go_enter Try.func13, Try.ntmps13
  go_wp2_with fail
  go_loopw [1, 5, 6] (fun xv v iv wr => PairRel w l xv v iv wr) (fun _ _ iv _ => 4 - (intOf iv).toNat)
  case atStart => exact ⟨l, 0, [], rfl, rfl, rfl, by omega, OwnD.start w, by simp [Dg.val], by simpa using hl, Nat.le_refl _⟩
  case round =>
    obtain ⟨X, k, os, rfl, rfl, hlen, hk, hown, hv, hX, hxx⟩ := hrel
    have Hv := Lib.hid hv
    have HX := Lib.hid hX
    have Ho := Lib.hid hown
    have Hlen := Lib.hid hlen
    have hown' := hown.1
    have hsz := hown.2.1.size
    have hle : os.length ≤ 4 := by omega
    clear hv hX hown hlen
    by_cases h4 : k < 4
    · go_wp2_with (at_builtin; refine wpList_append_own _ rfl _ _ 27 rfl w.heap.size 3 i0 (.int .i64 0) 1 8 Try.underlying27 hi hz0 hz1 hz2 rfl (by decide) _ _ _ rfl (hown'.alloc _) ⟨wr.heap.size, 0, none⟩ 1 1 [.int .i64 ((X % 65536 : Nat) : Int)] rfl rfl (cell_one_new _ _ _) (fun x hx => by simp at hx; subst hx; rfl) (by unfold maxLen; omega) (by omega) (by simp; omega) ?_; intro v' w1 hown1 hgrow1 hnil1)
      go_roundw
      case rel => exact pair_step Hlen.out h4 Hv.out HX.out hxx (Ho.out.snoc (Nat.mod_lt _ (by omega)) hown1 hgrow1 hnil1)
      case measure => simp [intOf]; omega
    · obtain rfl : k = 4 := by omega
      go_wp2_with (first
        | (go_at_call 23; refine (of_any h hh _).mono ?_; rintro e w2 ⟨vh, rfl, ⟨bh, oh, ch, ds, rfl, hch, hrd, hds⟩, hb2, _⟩; have Ho2 := Lib.hid (Ho.out.below hb2); have hz2' := Ho2.out.2.1.size; have hdl : ds.length ≤ 4 := hds.len_le (by omega))
        | (at_builtin; refine wpList_append_own _ rfl _ _ 27 rfl w.heap.size 3 i0 (.int .i64 0) 1 8 Try.underlying27 hi hz0 hz1 hz2 rfl (by decide) _ _ _ rfl Ho2.out.1 ⟨bh, oh, none⟩ ds.length ch (dv ds) rfl (by simp [dv]) (rd_cell hrd) (dv_one ds) (by unfold maxLen; omega) (by omega) hz2' ?_; intro v3 w3 hown3 hgrow3 hnil3; have Ho3 := Lib.hid (Ho2.out.app hds.1 hown3 hgrow3 hnil3); clear hown3 hgrow3 hnil3)
        | (go_at_call 30; refine (trim_own Ho3.out (by rw [List.length_append]; omega)).mono ?_; rintro e w4 ⟨v4, rfl, hn4, hb4, hf4⟩))
      go_ret
      exact NumPost.from ⟨_, rfl, hn4, hb4, hf4⟩ Ho3.out.2.1 (pair_val Hlen.out HX.out Hv.out hds.2.1)

end Go.Proofs.Ytfohfpeeghnocaa
