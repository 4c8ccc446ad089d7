/- Package ether: Encode; bytes.Equal. -/
import Derived.Test.YtbpkjljienadiaaEText
import Derived.Test.YtbpkjljienadiaaECheck
namespace Go.Proofs.Ytbpkjljienadiaa
open Go.RowKit Go.Joins

/-- What Encode answers. -/
def EncPost (w : World) (f : Fr) (e : Ending) (w' : World) : Prop :=
  (f.chk = 0 ∧ ∃ v, e = .returned (.tuple #[v, .int .i64 0]) ∧ OwnB w w' v (Crc.close f.text)) ∨
  (f.chk ≠ 0 ∧ e = .returned (.tuple #[.slice none 0 0, .int .i64 (f.chk : Int)]) ∧ Below w.heap.size w w')

theorem enc_bad (f : Fr) (p : Option Addr) (n c x : Nat) (w : World) (hx : (((x : Nat) : Int) != 0) = true) (HK : Ret 15 #[FV f (.slice p n c)] (.int .i64 (x : Int))) :
    Calls Try.prog 11 #[FV f (.slice p n c)] w fun e w' => e = .returned (.tuple #[.slice none 0 0, .int .i64 (x : Int)]) ∧ Below w.heap.size w w' := by
  have HK' := Lib.hid HK
  clear HK
  unfold FV at HK' ⊢
  go_enter Try.func11, Try.ntmps11
  go_wp2_with (first
    | (with_reducible refine at_loadF ?_; refine wpList_loadF rfl _ rfl w.heap.size rfl _ _ (heap_alloc_new w _) rfl ?_)
    | (go_at_call 15; (with_reducible refine (HK'.out.go _).mono ?_); rintro e w1 ⟨rfl, hb⟩; have HB := Lib.hid (bTr (bAl (bRef w) _) hb); clear hb))
  go_ret2
  exact ⟨rfl, HB.out⟩

theorem enc_ok (f : Fr) (p : Option Addr) (n c : Nat) (w : World) (HK : Ret 15 #[FV f (.slice p n c)] (.int .i64 0))
    (HT : ∀ wx, Below w.heap.size w wx → Calls Try.prog 25 #[FV f (.slice p n c)] wx (OwnPost wx f.text)) (hl : f.text.length ≤ 140737488355000) :
    Calls Try.prog 11 #[FV f (.slice p n c)] w fun e w' => ∃ v, e = .returned (.tuple #[v, .int .i64 0]) ∧ OwnB w w' v (Crc.close f.text) := by
  have HK' := Lib.hid HK
  have HT' := Lib.hid HT
  have HB0 : Hid (Boxed (w.alloc (.cells (FC f (.slice p n c)) 26)) w.heap.size f (.slice p n c)) := Lib.hid (heap_alloc_new w _)
  have HL := Lib.hid hl
  clear HK HT hl
  unfold FV at HK' HT' ⊢
  unfold FC at HB0
  go_enter Try.func11, Try.ntmps11
  go_wp2_with (first
    | (with_reducible refine at_loadF ?_; refine wpList_loadF rfl _ rfl w.heap.size rfl _ _ (heap_alloc_new w _) rfl ?_)
    | (with_reducible refine at_loadF ?_; refine wpList_loadF rfl _ rfl w.heap.size rfl _ _ HX.out rfl ?_)
    | (go_at_call 15; (with_reducible refine (HK'.out.go _).mono ?_); rintro e w1 ⟨rfl, hb⟩; have HB := Lib.hid (bTr (bAl (bRef w) _) hb); have HX := Lib.hid (HB0.out.below hb); unfold Boxed FC at HX; clear hb)
    | (go_at_call 25; (with_reducible refine (HT'.out _ HB.out).mono ?_); rintro e w2 ⟨v2, rfl, hown⟩; have HO := Lib.hid hown; clear hown)
    | (go_at_call 24; (with_reducible refine (close_any HO.out.arg HL.out).mono ?_); rintro e w3 ⟨v3, rfl, hown⟩; replace HO := Lib.hid (OwnB.from (bTr HB.out HO.out.bel) hown); clear hown))
  go_ret2
  exact ⟨_, rfl, HO.out⟩

theorem encode_any (f : Fr) (v : Value) (w : World) (hw : f.Wf) (hl : f.data.length < 140737488355328) (hA : BArg w v f.data) :
    Calls Try.prog 11 #[FV f v] w (EncPost w f) := by
  obtain ⟨p, c, rfl⟩ := hA.slice
  have HK := check_ret f p _ c rfl hl
  by_cases h0 : f.chk = 0
  · have hh := Fr.chk_zero.1 h0
    have hs := f.size_ge
    have hsz : 20 + f.data.length + f.extra ≤ f.size := by unfold Fr.size; omega
    rw [h0] at HK
    refine (enc_ok f p _ c w HK (fun wx hb => text_any f _ wx hh.1 hw (by omega) (hA.below hb)) (by rw [Fr.text_len]; omega)).mono fun e w' h => .inl ⟨h0, h⟩
  · exact (enc_bad f p _ c f.chk w (by rw [bne_iff_ne]; omega) HK).mono fun e w' h => .inr ⟨h0, h⟩

theorem equal_walk (p q : Option Addr) (n m c d : Nat) (w : World) (s t : ByteArray) (x : Bool) (hx : (s.toList == t.toList) = x) (h1 : (convert 24 9 (.slice p n c)).run Try.prog w = .ok (.string s) w) (h2 : (convert 24 9 (.slice q m d)).run Try.prog w = .ok (.string t) w) :
    Calls Try.prog 30 #[.slice p n c, .slice q m d] w fun e w' => e = .returned (.bool x) ∧ w = w' := by
  go_enter Try.func30, Try.ntmps30
  go_wp2_with fail
  go_ret
  exact ⟨rfl, rfl⟩
theorem txt_eq {xs ys : List Nat} (ha : Crc.Bytes xs) (hb : Crc.Bytes ys) : ((txt xs).toList == (txt ys).toList) = decide (xs = ys) := by
  by_cases h : xs = ys
  · rw [h, decide_eq_true rfl]; simp
  · rw [decide_eq_false h, beq_eq_false_iff_ne]
    intro e
    apply h
    rw [txt_list, txt_list] at e
    have h2 := congrArg (List.map UInt8.toNat) e
    rw [List.map_map, List.map_map, bytes_back ha, bytes_back hb] at h2
    exact h2
/-- bytes.Equal. -/
theorem equal_any {va vb : Value} {xs ys : List Nat} {w : World} (ha : BArg w va xs) (hb : BArg w vb ys) (x : Bool) (hx : decide (xs = ys) = x) :
    Calls Try.prog 30 #[va, vb] w fun e w' => e = .returned (.bool x) ∧ w = w' := by
  obtain ⟨p, c, rfl⟩ := ha.slice
  obtain ⟨q, d, rfl⟩ := hb.slice
  exact equal_walk p q _ _ c d w (txt xs) (txt ys) x (by rw [txt_eq ha.1 hb.1, hx]) ha.conv hb.conv

end Go.Proofs.Ytbpkjljienadiaa
