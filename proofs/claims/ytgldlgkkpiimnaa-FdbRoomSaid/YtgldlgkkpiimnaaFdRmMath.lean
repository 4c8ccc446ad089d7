/- FdbRoom in plain numbers: what the table holds. -/
import Derived.Test.YtgldlgkkpiimnaaFdSaid
import Derived.Test.YtgldlgkkpiimnaaFdAge
namespace Go.Proofs.Ytgldlgkkpiimnaa
open Go.RowKit Go.Joins Go.Maps Go.MapKept Go.ChangeMaps Go.WideMaps

def pj (j : Nat) : Pl := (2, ⟨0, 0, 0, 0, 0, j⟩)
theorem pj_good {j : Nat} (h : j < 256) : (pj j).Good := ⟨⟨by show (-9223372036854775808 : Int) ≤ 2; decide, by show (2 : Int) < 9223372036854775808; decide⟩, ⟨by show 0 < 256; decide, by show 0 < 256; decide, by show 0 < 256; decide, by show 0 < 256; decide, by show 0 < 256; decide, h⟩⟩
theorem pj_inj {i j : Nat} (h : pj i = pj j) : i = j := by
  unfold pj at h
  injection h with _ h
  injection h
def rmS (F : Nat → Int) (room : Int) (E : List (Pl × (Int × Int))) : TS := ⟨4, room, F, putL [] 2 (15, 0), putL [] (pj 0) 8, E⟩
structure RmE (room now : Int) (E : List (Pl × (Int × Int))) : Prop where
  e : ∀ x ∈ E, (∃ j, x.1 = pj j ∧ 1 ≤ j ∧ j < 32) ∧ 0 ≤ x.2.1 ∧ x.2.1 < 4 ∧ x.2.2 = now
  len : (E.length : Int) + 1 ≤ room
section
variable {F : Nat → Int} {room now : Int} {E : List (Pl × (Int × Int))}
theorem rmS_look0 : (lookL (rmS F room E).S (pj 0)).getD 0 = 8 := by
  unfold rmS
  show (lookL (putL [] (pj 0) 8) (pj 0)).getD 0 = 8
  rw [lookL_put_same]
  rfl
theorem rmS_look {j : Nat} (h : 1 ≤ j) : (lookL (rmS F room E).S (pj j)).getD 0 = 0 := by
  unfold rmS
  show (lookL (putL [] (pj 0) 8) (pj j)).getD 0 = 0
  rw [lookL_put_other _ _ (fun e => by have := pj_inj e; omega)]
  rfl
theorem RmE.ok (h : RmE room now E) : OkE (rmS F room E) := by
  refine ⟨fun x hx => ?_, fun x hx => ?_⟩
  · obtain ⟨_, h1, h2, _⟩ := h.e x hx
    exact ⟨h1, by omega⟩
  · change x ∈ putL [] (pj 0) 8 at hx
    unfold putL at hx
    simp [delL] at hx
    subst hx
    exact .inr (.inr (.inr (.inl rfl)))
theorem RmE.unsaid (h : RmE room now E) : lookL E (pj 0) = none := lookL_none.2 fun x hx e => by
  obtain ⟨⟨j, h1, h2, _⟩, _⟩ := h.e x hx
  have := pj_inj (h1.symm.trans e)
  omega
theorem rm_vlan : vlanV (rmS F room E) 2 = (15, 0) := by
  unfold vlanV rmS
  show (lookL (putL [] 2 (15, 0)) 2).getD (0, 0) = _
  rw [lookL_put_same]
  rfl
theorem RmE.out (h : RmE room now E) : outP (rmS F room E) 0 (pj 0) = 8 := by
  have hw : whereV (rmS F room E) (pj 0) = 8 := by
    unfold whereV
    rw [show lookL (rmS F room E).E (pj 0) = none from h.unsaid]
    exact rmS_look0
  unfold outP
  rw [hw, if_neg (by decide), show (pj 0).1 = 2 from rfl, rm_vlan]
  have e : bits .and .i64 (bits .andNot .i64 15 ((2 ^ 0 : Nat) : Int)) 8 = 8 := by kernel_rfl
  exact e
/-- One more is noted. -/
theorem RmE.put (h : RmE room now E) {j a : Nat} (h1 : 1 ≤ j) (h2 : j < 32) (ha : a < 4) (hr : whereV (rmS F room E) (pj j) ≠ 0 ∨ (((rmS F room E).S.length + (rmS F room E).E.length : Nat) : Int) < (rmS F room E).room) : RmE room now (putL E (pj j) ((a : Int), now)) := by
  refine ⟨fun x hx => ?_, ?_⟩
  · unfold putL at hx
    rcases List.mem_cons.1 hx with rfl | hx
    · exact ⟨⟨j, rfl, h1, h2⟩, by show (0 : Int) ≤ (a : Int); omega, by show (a : Int) < 4; omega, rfl⟩
    · exact h.e x (mem_delL.1 hx).1
  · have hl := h.len
    unfold putL
    simp only [List.length_cons]
    rcases hq : lookL E (pj j) with _ | c
    · have hw : whereV (rmS F room E) (pj j) = 0 := by
        unfold whereV
        rw [show lookL (rmS F room E).E (pj j) = none from hq]
        exact rmS_look h1
      have hr2 : (((rmS F room E).S.length + (rmS F room E).E.length : Nat) : Int) < (rmS F room E).room := by
        rcases hr with hr | hr
        · exact absurd hw hr
        · exact hr
      have e1 : (rmS F room E).S.length = 1 := rfl
      have e2 : (rmS F room E).E = E := rfl
      have e3 : (rmS F room E).room = room := rfl
      rw [e1, e2, e3] at hr2
      have hd : (delL E (pj j)).length ≤ E.length := List.length_filter_le _ _
      omega
    · have hm := lookL_mem hq
      have hd : (delL E (pj j)).length < E.length := by
        unfold delL
        refine List.length_filter_lt_length_iff_exists.2 ⟨_, hm, by simp⟩
      omega
end

end Go.Proofs.Ytgldlgkkpiimnaa
