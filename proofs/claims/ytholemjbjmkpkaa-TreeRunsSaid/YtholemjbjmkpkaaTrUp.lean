/- Package tree: Best of none, Root, Up. -/
import Derived.Test.YtholemjbjmkpkaaTrBest
namespace Go.Proofs.Ytholemjbjmkpkaa
open Go.RowKit Go.Joins Go.Deep

def nilV : Vc := ⟨⟨0, 0, 0, 0⟩, 0, 0, 0, -1⟩
theorem best_nil (now : Int) (w : World) : Calls Try.prog 23 #[.pointer none, .int .i64 now] w fun e w' => e = .returned (.tuple #[.agg (VC nilV), .slice none 0 0]) ∧ Below w.heap.size w w' := by
  unfold VC nilV
  go_enter Try.func23, Try.ntmps23
  go_wp2_with fail
  refine bodyW2 rfl w.heap.size (VC nilV) (.slice none 0 0) _ rfl rfl (heap_alloc_new w _) Try.underlying25 rfl (by kernel_rfl) rfl ?_
  exact ⟨rfl, bAl (bRef w) _⟩
theorem root_any {w : World} {b g : Nat} {t : Ts} (h : Tr w b g t) (hok : t.Ok) (now : Int) (hnow : In64 now) : Calls Try.prog 26 #[.pointer (some ⟨b, 0, none⟩), .int .i64 now] w fun e w' => e = .returned (.bool ((t.best now).at_ == -1)) ∧ Below w.heap.size w w' := by
  have HB := Lib.hid (best_any h hok now hnow)
  unfold Chosen VC at HB
  generalize t.best now = c at *
  clear h hok hnow
  go_enter Try.func26, Try.ntmps26
  go_wp2_with (go_at_call 23; (with_reducible refine HB.out.mono ?_); rintro e w1 ⟨q, rfl, hq, hrow, hb⟩; have HB1 := Lib.hid hb; clear hb hq hrow)
  go_ret
  exact ⟨rfl, bAl HB1.out _⟩
theorem root_nil (now : Int) (w : World) : Calls Try.prog 26 #[.pointer none, .int .i64 now] w fun e w' => e = .returned (.bool false) ∧ Below w.heap.size w w' := by
  have HB := Lib.hid (fun W => best_nil now W)
  unfold VC nilV at HB
  go_enter Try.func26, Try.ntmps26
  go_wp2_with (go_at_call 23; (with_reducible refine (HB.out _).mono ?_); rintro e w1 ⟨rfl, hb⟩; have HB1 := Lib.hid hb; clear hb)
  go_ret
  exact ⟨rfl, bAl HB1.out _⟩
/-- A port of which nothing was heard. -/
def Kp.fresh (up : Bool) : Kp := ⟨up, false, 0, ⟨⟨0, 0, 0, 0⟩, 0, 0, 0, 0⟩, []⟩
def Ts.upd (t : Ts) (at_ : Int) (up : Bool) : Ts := if t.has at_ && (t.ports at_.toNat).up != up then t.set at_.toNat (Kp.fresh up) else t
/-- What a call over a tree leaves. -/
def LeaveT (b g : Nat) (w : World) (t : Ts) (w' : World) : Prop := Tr w' b g t ∧ ButB g w w'
theorem up_nil (at_ : Int) (up : Bool) (w : World) : Calls Try.prog 25 #[.pointer none, .int .i64 at_, .bool up] w fun e w' => e = .returned (.tuple #[]) ∧ w = w' := by
  have HH := Lib.hid (fun W => has_nil at_ W)
  go_enter Try.func25, Try.ntmps25
  go_wp2_with (go_at_call 36; (with_reducible refine (HH.out _).mono ?_); rintro e w1 ⟨rfl, rfl⟩)
  go_end0
  exact ⟨rfl, rfl⟩
set_option maxHeartbeats 1000000 in
theorem up_any {w : World} {b g : Nat} {t : Ts} (h : Tr w b g t) (at_ : Int) (up : Bool) : Calls Try.prog 25 #[.pointer (some ⟨b, 0, none⟩), .int .i64 at_, .bool up] w fun e w' => e = .returned (.tuple #[]) ∧ LeaveT b g w (t.upd at_ up) w' := by
  have HH := Lib.hid (has_any h at_)
  have HT := Lib.hid h
  unfold Ts.upd
  cases ha : t.has at_ with
  | false =>
    rw [Bool.false_and, if_neg (by decide)]
    rw [ha] at HH
    clear h ha
    go_enter Try.func25, Try.ntmps25
    go_wp2_with (go_at_call 36; (with_reducible refine HH.out.mono ?_); rintro e w1 ⟨rfl, rfl⟩)
    go_end0
    exact ⟨rfl, HT.out, ButB.refl g w⟩
  | true =>
    rw [Bool.true_and]
    rw [ha] at HH
    unfold Ts.has at ha
    simp only [Bool.and_eq_true, decide_eq_true_eq] at ha
    obtain ⟨k, rfl⟩ : ∃ k : Nat, at_ = (k : Int) := ⟨at_.toNat, by omega⟩
    rw [Int.toNat_natCast]
    have hk : k < t.n := by omega
    obtain ⟨us, hi⟩ := h
    have HI := Lib.hid hi
    have c6 := hi.c6
    have hp := hi.port hk
    have cu : w.cell? ⟨g, k * 12, none⟩ = some (.bool (t.ports k).up) := hp 0 _ rfl
    have HTh := Lib.hid (hi.there hk)
    have hn8 : (k : Int) < (t.n : Int) := by omega
    have HK := Lib.hid hk
    have hir : IntKind.i64.wrap (k : Int) = (k : Int) ∨ True := .inr trivial
    clear ha hi hp hir
    generalize hpu : (t.ports k).up = pu at *
    clear hpu
    generalize hn : t.n = n at *
    by_cases he : pu = up
    · have hb : (pu != up) = false := by rw [he]; cases up <;> rfl
      have hb2 : (pu == up) = true := by rw [he]; cases up <;> rfl
      rw [hb, if_neg (by decide)]
      clear he
      go_enter Try.func25, Try.ntmps25
      go_wp2_with (go_at_call 36; (with_reducible refine HH.out.mono ?_); rintro e w1 ⟨rfl, rfl⟩)
      go_end0
      exact ⟨rfl, HT.out, ButB.refl g w⟩
    · have hb : (pu != up) = true := by rw [bne_iff_ne]; exact he
      have hb2 : (pu == up) = false := by rw [beq_eq_false_iff_ne]; exact he
      rw [hb, if_pos rfl]
      have HS := Lib.hid (HI.out.set (by rw [hn]; exact HK.out) (Kp.fresh up) (.slice none 0 0) (PA.nil w))
      rw [show KC (Kp.fresh up) (.slice none 0 0) = #[.bool up, .bool false, .int .i64 0, .int .i64 0, .int .i64 0, .int .i64 0, .int .i64 0, .int .i64 0, .int .i64 0, .int .i64 0, .int .i64 0, .slice none 0 0] from rfl] at HS
      clear he hn
      go_enter Try.func25, Try.ntmps25
      go_wp2_with (first
        | (go_at_call 36; (with_reducible refine HH.out.mono ?_); rintro e w1 ⟨rfl, rfl⟩)
        | ((with_reducible refine at_storeQ ?_); refine wpList_store_mid rfl _ _ _ rfl g (k * 12) #[.bool up, .bool false, .int .i64 0, .int .i64 0, .int .i64 0, .int .i64 0, .int .i64 0, .int .i64 0, .int .i64 0, .int .i64 0, .int .i64 0, .slice none 0 0] rfl rfl HTh.out (by kernel_rfl) (by simp [Value.oneCell']) ?_))
      go_end0
      exact ⟨rfl, ⟨_, HS.out⟩, (ButB.refl g w).sets _ _⟩

end Go.Proofs.Ytholemjbjmkpkaa
