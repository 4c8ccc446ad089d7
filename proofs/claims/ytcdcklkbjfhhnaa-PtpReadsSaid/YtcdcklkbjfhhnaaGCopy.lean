/- Bytes copied: Copy, bytes.Clone; closed: the program's Close, the reference's. -/
import Derived.Test.YtcdcklkbjfhhnaaGOwn
namespace Go.Proofs.Ytcdcklkbjfhhnaa
open Go.RowKit Go.Joins

theorem q_nil (w : World) (a : Option Addr) (n c n' c' : Nat) : (binOp .eql 30 (.slice a n c) (.slice none n' c')).run Try.prog w = .ok (.bool a.isNone) w :=
  Lib.run_eql_slice_nil w _ _ a n c n' c' Try.underlying30

theorem copy_any {v : Value} {xs : List Nat} {w : World} (h : BArg w v xs) (hl : xs.length ≤ 140737488355328) :
    Calls Try.prog 16 #[v] w (OwnPost w xs) := by
  have hl1 : ([] : List Nat).length + xs.length ≤ 140737488355328 := by simpa using hl
  have H := Lib.hid h
  obtain ⟨p, c, hv⟩ := h.slice
  subst hv
  clear h
  go_enter Try.func16, Try.ntmps16
  go_wp2_with (at_builtin; refine wpList_app rfl _ _ rfl w _ (.slice (some ⟨w.heap.size, 0, none⟩) 0 0) (.slice p xs.length c) [] xs rfl rfl (OwnB.start w) (H.out.below (bAl (bRef w) _)) hl1 ?_; intro v1 w1 hown)
  go_ret
  exact ⟨_, rfl, by simpa using hown⟩

end Go.Proofs.Ytcdcklkbjfhhnaa
