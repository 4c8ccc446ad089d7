/- For every time AgendaFull answers true: so much is to come, and no more; one that came makes room; a nil agenda has nothing. No condition. -/
import Derived.Test.YtffjbngelapmmabFAgendaFull
import Derived.Test.YtffjbngelapmmabAgLow
namespace Go.Proofs.Ytffjbngelapmmab
open Go.RowKit Go.Joins

theorem low16 (n : Int) : bits .and .i64 n 65535 = n % 65536 := and_low n 16 (by omega)
def fullS (x : Int) (i : Nat) : List (Int × Int × Int) := (List.range i).map fun (j : Nat) => (x, (j : Int) + 1, (j : Int))
theorem fullS_succ (x : Int) (i : Nat) : fullS x (i + 1) = fullS x i ++ [(x, (i : Int) + 1, (i : Int))] := by unfold fullS; rw [List.range_succ, List.map_append]; rfl
theorem fullS_len (x : Int) (i : Nat) : (fullS x i).length = i := by unfold fullS; simp
theorem fullS_mem {x : Int} {i : Nat} {m : Int × Int × Int} (h : m ∈ fullS x i) : ∃ j : Nat, j < i ∧ m = (x, (j : Int) + 1, (j : Int)) := by
  unfold fullS at h
  obtain ⟨j, hj, rfl⟩ := List.mem_map.1 h
  exact ⟨j, by simpa using hj, rfl⟩
theorem fullS_first {x : Int} {i : Nat} {m : Int × Int × Int} (hi : 0 < i) (h : AgI.First (fullS x i) m) : m = (x, 1, 0) := by
  obtain ⟨j, hj, rfl⟩ := fullS_mem h.1
  have h2 := h.2 (x, 1, 0) (by unfold fullS; exact List.mem_map.2 ⟨0, by simpa using hi, by simp⟩)
  unfold AgI.kLt at h2
  have : j = 0 := by simp at h2; omega
  subst this
  rfl
def FullRel (w : World) (B : Nat) (x : Int) (g : Nat) (iv : Value) (wr : World) : Prop := ∃ i : Nat, i ≤ 8192 ∧ iv = .int .i64 (i : Int) ∧ AgI.St B wr g 0 (i : Int) (fullS x i) ∧ Below w.heap.size w wr

set_option maxHeartbeats 2000000 in
theorem full_walk (a x : Int) (hx : bits .and .i64 a 65535 = x) (h0 : 0 ≤ x) (h1 : x < 65536) (w : World) :
    Calls Try.prog 5 #[.int .i64 a] w fun e w' => e = .returned (.bool true) ∧ Below w.heap.size w w' := by
  have HH := Lib.hid head_ret
  have HN := Lib.hid AgI.new_st
  go_enter Try.func5, Try.ntmps5
  go_wp2_with (first
    | (go_at_call 8; (with_reducible refine (HH.out _).mono ?_); rintro e w1 ⟨rfl, hb⟩; have HB := Lib.hid hb; clear hb)
    | (go_at_call 9; (with_reducible refine (HN.out _).mono ?_); rintro e w2 ⟨g, rfl, hs, hb⟩; have HS := Lib.hid hs; have HBW : Hid (w.heap.size ≤ w1.heap.size) := Lib.hid HB.out.size; replace HB := Lib.hid (AgI.bTr HB.out hb); clear hs hb))
  obtain ⟨B, hB⟩ : ∃ B, w1.heap.size = B := ⟨_, rfl⟩
  rw [hB] at HS HBW
  clear hB
  go_loopw [4] (fun iv wr => FullRel w B x g iv wr) (fun iv _ => 8192 - (intOf iv).toNat)
  case atStart => exact ⟨0, by omega, rfl, HS.out, HB.out⟩
  case round =>
    clear HS HB
    obtain ⟨i, hi, rfl, hs, hb⟩ := hrel
    have HS := Lib.hid hs
    have HB := Lib.hid hb
    clear hs hb
    rcases Nat.lt_or_ge i 8192 with g1 | g1
    · have hd : decide ((i : Int) < 8192) = true := decide_eq_true (by omega)
      have HP := Lib.hid (AgI.put_st HS.out x (i : Int) (by omega) h0 (by rw [fullS_len]; exact g1) (by omega) (by omega))
      go_wp2_with (go_at_call 10; (with_reducible refine HP.out.mono ?_); rintro e w3 ⟨rfl, hs, hb, hk2⟩; have HS2 := Lib.hid hs; have HB2 := Lib.hid hb; clear hs hb hk2)
      exact ⟨⟨i + 1, by omega, by go_num, by rw [fullS_succ]; exact HS2.out, HB.out.trans (HB2.out.mono HBW.out)⟩, by simp [intOf]; omega⟩
    · obtain rfl : i = 8192 := by omega
      have HP := Lib.hid (AgI.putFull_st HS.out x 0 (by omega) h0 (fullS_len x 8192))
      have n1 := Lib.hid (AgI.put_nil 0 0)
      have n2 := Lib.hid (AgI.next_nil 9)
      have n3 := Lib.hid (AgI.drop_nil 1)
      have n4 := Lib.hid (AgI.wait_nil 5)
      have n5 := Lib.hid AgI.now_nil
      have n6 := Lib.hid AgI.len_nil
      have HL := Lib.hid (fullS_len x 8192)
      go_wp2_with (first
        | (go_at_call 10; (with_reducible refine HP.out.mono ?_); rintro e w3 ⟨rfl, hb⟩; have HS2 := Lib.hid (HS.out.below hb); have HB2 := Lib.hid (HB.out.trans (hb.mono HB.out.size)); have HNX := Lib.hid (AgI.next_st HS2.out x (by rw [HL.out]; decide) (by rw [HL.out]; decide) (fun m hm => by rw [fullS_first (by decide) hm]; exact Int.le_refl _)); clear hb)
        | (go_at_call 13; (with_reducible refine HNX.out.mono ?_); rintro e w4 ⟨m, S', rfl, hf, hx', hp, hs, hb, hk2⟩; obtain rfl := fullS_first (by decide) hf; have hl := hp.length_eq; rw [List.length_cons, HL.out] at hl; have HB3 := Lib.hid (HB2.out.trans (hb.mono HBW.out)); have HPP := Lib.hid (AgI.put_st hs x 7 (by omega) (Int.le_refl _) (by omega) (by omega) (by omega)); clear hf hx' hp hs hb hk2 hl)
        | (go_at_call 10; (with_reducible refine HPP.out.mono ?_); rintro e w5 ⟨rfl, hs, hb, hk2⟩; have HB4 := Lib.hid (HB3.out.trans (hb.mono HBW.out)); clear hs hb hk2)
        | (go_at_call 10; (with_reducible refine (n1.out _).mono ?_); rintro e w6 ⟨rfl, hb⟩; have HB5 := Lib.hid (HB4.out.trans (hb.mono HB4.out.size)); clear hb)
        | (go_at_call 13; (with_reducible refine (n2.out _).mono ?_); rintro e w7 ⟨rfl, hb⟩; have HB6 := Lib.hid (HB5.out.trans (hb.mono HB5.out.size)); clear hb)
        | (go_at_call 11; (with_reducible refine (n3.out _).mono ?_); rintro e w8 ⟨rfl, hb⟩; have HB7 := Lib.hid (HB6.out.trans (hb.mono HB6.out.size)); clear hb)
        | (go_at_call 12; (with_reducible refine (n4.out _).mono ?_); rintro e w9 ⟨rfl, hb⟩; have HB8 := Lib.hid (HB7.out.trans (hb.mono HB7.out.size)); clear hb)
        | (go_at_call 14; (with_reducible refine (n5.out _).mono ?_); rintro e w10 ⟨rfl, hb⟩; have HB9 := Lib.hid (HB8.out.trans (hb.mono HB8.out.size)); clear hb)
        | (go_at_call 15; (with_reducible refine (n6.out _).mono ?_); rintro e w11 ⟨rfl, hb⟩; have HBA := Lib.hid (HB9.out.trans (hb.mono HB9.out.size)); clear hb))
      go_ret
      exact ⟨by simp, HBA.out⟩

theorem agendaFull_holds : Rows.AgendaFullSaid := agendaFull_of (fun a w _ _ => full_walk a _ (low16 a) (by omega) (by omega) w)

end Go.Proofs.Ytffjbngelapmmab
