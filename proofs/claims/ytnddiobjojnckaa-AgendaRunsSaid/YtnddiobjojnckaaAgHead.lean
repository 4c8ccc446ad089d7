/- The laws' example: three bytes put, two that come. -/
import Derived.Test.YtnddiobjojnckaaAgStB
import Derived.Test.YtnddiobjojnckaaAgStI
import Derived.Test.YtnddiobjojnckaaAgMore
namespace Go.Proofs.Ytnddiobjojnckaa
open Go.RowKit Go.Joins

def spec3 : List (Int × Int × Int) := [(5, 1, 5), (3, 2, 3), (5, 3, 5)]
def HeadRel (w : World) (g hb : Nat) (kv : Value) (wr : World) : Prop :=
  ∃ k : Nat, k ≤ 3 ∧ kv = .int .i64 (k : Int) ∧ AgB.St w.heap.size wr g 0 (k : Int) (spec3.take k) ∧ wr.heap[hb]? = some (.cells #[.int .i64 5, .int .i64 3, .int .i64 5] 3 (0, 0)) ∧ Below w.heap.size w wr
theorem intNot : ∀ cs t fr, (Obj.cells #[.int .i64 5, .int .i64 3, .int .i64 5] 3 (0, 0)) = Obj.cells cs t fr → t ∉ AgB.K2 := fun cs t fr e => by
  injection e with _ e2 _
  rw [← e2]; decide
theorem first3 {m : Int × Int × Int} (h : AgB.First spec3 m) : m = (3, 2, 3) := by
  have hm := h.1
  have h2 := h.2 (3, 2, 3) (by simp [spec3])
  simp only [spec3, List.mem_cons, List.not_mem_nil, or_false] at hm
  unfold AgB.kLt at h2
  rcases hm with rfl | rfl | rfl
  · simp at h2
  · rfl
  · simp at h2
theorem first2 {S : List (Int × Int × Int)} {m : Int × Int × Int} (hp : S.Perm [(5, 1, 5), (5, 3, 5)]) (h : AgB.First S m) : m = (5, 1, 5) := by
  have hm := hp.mem_iff.1 h.1
  have h2 := h.2 (5, 1, 5) (hp.mem_iff.2 (by simp))
  simp only [List.mem_cons, List.not_mem_nil, or_false] at hm
  unfold AgB.kLt at h2
  rcases hm with rfl | rfl
  · rfl
  · simp at h2

set_option maxHeartbeats 1000000 in
theorem head_ret (w : World) : Calls Try.prog 4 #[] w fun e w' => e = .returned (.bool true) ∧ Below w.heap.size w w' := by
  have HN := Lib.hid AgB.new_st
  go_enter Try.func4, Try.ntmps4
  go_wp2_with (first
    | (go_at_call 12; (with_reducible refine (HN.out _).mono ?_); rintro e w1 ⟨g, rfl, hs, hb⟩; have HS := Lib.hid hs; have HB := Lib.hid hb; clear hs hb))
  go_loopw [19] (fun kv wr => HeadRel w g w1.heap.size kv wr) (fun kv _ => 3 - (intOf kv).toNat)
  case atStart => exact ⟨0, by omega, rfl, HS.out.below (AgB.bAl (AgB.bRef w1) _), heap_alloc_new w1 _, AgB.bAl HB.out _⟩
  case round =>
    clear HS HB HN
    obtain ⟨k, hk, rfl, hs, hc, hb⟩ := hrel
    have HS := Lib.hid hs
    have HC := Lib.hid hc
    have HB := Lib.hid hb
    clear hs hc hb
    rcases Nat.lt_or_ge k 3 with g1 | g1
    · have hd : decide ((k : Int) < 3) = true := decide_eq_true (by omega)
      obtain ⟨x, c1, x0, x1, hx⟩ : ∃ x : Int, wr.cell? ⟨w1.heap.size, k, none⟩ = some (.int .i64 x) ∧ 0 ≤ x ∧ x < 256 ∧ spec3.take (k + 1) = spec3.take k ++ [(x, (k : Int) + 1, x)] := by
        have h012 : k = 0 ∨ k = 1 ∨ k = 2 := by omega
        rcases h012 with rfl | rfl | rfl
        · exact ⟨5, cell_of_row _ _ _ _ _ _ HC.out, by omega, by omega, rfl⟩
        · exact ⟨3, cell_of_row _ _ _ _ _ _ HC.out, by omega, by omega, rfl⟩
        · exact ⟨5, cell_of_row _ _ _ _ _ _ HC.out, by omega, by omega, rfl⟩
      have HP := Lib.hid (AgB.put_st HS.out x x (by omega) x0 (by rw [List.length_take]; omega) (by omega) (by omega))
      have HX := Lib.hid hx
      have em : x % 256 = x := by omega
      clear hx
      go_wp2_with (go_at_call 13; (with_reducible refine HP.out.mono ?_); rintro e w2 ⟨rfl, hs, hb, hk2⟩; have HS2 := Lib.hid hs; have HB2 := Lib.hid hb; have HK2 := Lib.hid hk2; clear hs hb hk2)
      exact ⟨⟨k + 1, by omega, by go_num, by rw [HX.out]; exact HS2.out, HK2.out _ _ HC.out intNot, HB.out.trans HB2.out⟩, by simp [intOf]; omega⟩
    · obtain rfl : k = 3 := by omega
      have HP1 := Lib.hid (AgB.next_st HS.out 9 (by decide) (by decide) (fun m hm => by rw [first3 hm]; decide))
      go_wp2_with (first
        | (go_at_call 14; (with_reducible refine HP1.out.mono ?_); rintro e w2 ⟨m, S', rfl, hf, hx, hp, hs, hb, hk2⟩; obtain rfl := first3 hf; have hp' := (List.Perm.trans hp (show spec3.Perm ((3, 2, 3) :: [(5, 1, 5), (5, 3, 5)]) from List.Perm.swap _ _ _)).cons_inv; have HPP := Lib.hid hp'; have HS2 := Lib.hid hs; have HB2 := Lib.hid (HB.out.trans hb); have HP2 := Lib.hid (AgB.next_st HS2.out 9 (by rw [HPP.out.length_eq]; decide) (by rw [HPP.out.length_eq]; decide) (fun m hm => by rw [first2 HPP.out hm]; decide)); clear hf hx hp hs hb hk2 hp')
        | (go_at_call 14; (with_reducible refine HP2.out.mono ?_); rintro e w3 ⟨m, S', rfl, hf, hx, hp, hs, hb, hk2⟩; obtain rfl := first2 HPP.out hf; have HB3 := Lib.hid (HB2.out.trans hb); clear hf hx hp hs hb hk2))
      go_ret
      exact ⟨rfl, HB3.out⟩

end Go.Proofs.Ytnddiobjojnckaa
