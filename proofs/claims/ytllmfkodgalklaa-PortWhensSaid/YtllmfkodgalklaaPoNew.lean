/- Package port: New. -/
import Derived.Test.YtllmfkodgalklaaPoChange
namespace Go.Proofs.Ytllmfkodgalklaa
open Go.RowKit Go.Joins

section
variable {W : World}
set_option maxHeartbeats 1000000 in
theorem pnew_bad (b c : Int) (sl : Value) (ts : List (Int × Int)) (ht : TArg W sl ts) (hz : chkV b c ts ≠ 0) (r : Nat → Int) : Calls Try.prog 8 #[LV b c sl, a8 r] W fun e w' => e = .returned (.tuple #[.pointer none, .int .i64 (chkV b c ts)]) ∧ Below W.heap.size W w' := by
  have HB0 := Lib.hid (bAl (bAl (bRef W) (.cells #[.int .i64 b, .int .i64 c, sl] 24)) (o8 r))
  have HA := Lib.hid (ht.below HB0.out)
  have HC := Lib.hid (fun W (h : TArg W sl ts) => check_any b c sl ts W h)
  have d1 : (chkV b c ts != 0) = true := by simpa using hz
  obtain ⟨sp, sc, rfl⟩ := ht.slice
  generalize ts.length = sn at *
  generalize chkV b c ts = z at *
  unfold o8 at HB0 HA
  unfold a8
  clear hz ht
  go_enter Try.func8, Try.ntmps8
  go_wp2_with (go_at_call 10; (with_reducible refine (HC.out _ HA.out).mono ?_); rintro e w1 ⟨rfl, hb⟩; have HB1 := Lib.hid (bTr HB0.out hb); clear hb)
  go_ret2
  exact ⟨rfl, HB1.out⟩
set_option maxHeartbeats 1000000 in
theorem pnew_ok {w0 : World} (hw0 : Below w0.heap.size w0 W) (b c : Int) (sl : Value) (ts : List (Int × Int)) (ht : TArg W sl ts) (hz : chkV b c ts = 0) (r : Nat → Int) (hr : okR r 8) : Calls Try.prog 8 #[LV b c sl, a8 r] W fun e w' => ∃ k L, e = .returned (.tuple #[.pointer (some ⟨k, 0, none⟩), .int .i64 0]) ∧ W.heap.size ≤ k ∧ W.heap.size ≤ L ∧ PoL w0 w' k L (fun j => j = L) (PL.new b c ts) (LS.new r) ∧ Below W.heap.size W w' := by
  have HB0 := Lib.hid (bAl (bAl (bRef W) (.cells #[.int .i64 b, .int .i64 c, sl] 24)) (o8 r))
  have HW0 := Lib.hid hw0
  have HA := Lib.hid (ht.below HB0.out)
  have hg := chk_good hz
  have HGD := Lib.hid hg
  have HC := Lib.hid (fun W (h : TArg W sl ts) => check_any b c sl ts W h)
  rw [hz] at HC
  have HL := Lib.hid (fun W (h : TArg W sl ts) => clone_any h (by have := hg.len; omega))
  have HNW := Lib.hid (fun W (hb : Below w0.heap.size w0 W) => new_yes r hr w0 W hb)
  have HR := Lib.hid hr
  have e1 := heap_alloc_one W (.cells #[.int .i64 b, .int .i64 c, sl] 24)
  have e2 : LB ((W.alloc (.cells #[.int .i64 b, .int .i64 c, sl] 24)).alloc (o8 r)) W.heap.size b c sl := (heap_alloc_old _ (o8 r) (r := W.heap.size) (by simp)).trans e1
  have HLB := Lib.hid e2
  obtain ⟨sp, sc, hsl⟩ := ht.slice
  obtain ⟨sn, hsn⟩ : ∃ sn, sn = ts.length := ⟨_, rfl⟩
  have HSN := Lib.hid hsn
  rw [← hsn] at HL hsl
  subst hsl
  unfold o8 at HB0 HA HLB
  unfold a8
  unfold a8 at HNW
  clear hz ht hg hr e1 e2 hw0 hsn
  go_enter Try.func8, Try.ntmps8
  go_wp2_with (first
    | (go_at_call 10; (with_reducible refine (HC.out _ HA.out).mono ?_); rintro e w1 ⟨rfl, hb⟩; have HB1 := Lib.hid (bTr HB0.out hb); have HA1 := Lib.hid (HA.out.below hb); have HL1 := Lib.hid (HLB.out.below hb); have HR1 := Lib.hid ((hb.block (W.heap.size + 1) (by simp)).trans (heap_alloc_two' W (.cells #[.int .i64 b, .int .i64 c, .slice sp sn sc] 24) (o8 r))); have r0 := o8_cells r HR1.out (k := 0) (by omega); have r1 := o8_cells r HR1.out (k := 1) (by omega); have r2 := o8_cells r HR1.out (k := 2) (by omega); have r3 := o8_cells r HR1.out (k := 3) (by omega); have r4 := o8_cells r HR1.out (k := 4) (by omega); have r5 := o8_cells r HR1.out (k := 5) (by omega); have r6 := o8_cells r HR1.out (k := 6) (by omega); have r7 := o8_cells r HR1.out (k := 7) (by omega); clear hb)
    | (go_at_call 18; (with_reducible refine (HNW.out _ (HW0.out.trans (HB1.out.mono HW0.out.size))).mono ?_); rintro e w2 ⟨L, rfl, hl, hln, hb⟩; have HLN := Lib.hid hln; have HLL := Lib.hid hl; have HB2 := Lib.hid (bTr HB1.out hb); have HA2 := Lib.hid (HA1.out.below hb); have HL2 := Lib.hid (HL1.out.below hb); obtain ⟨l0, l1, l2⟩ := HL2.out.cells; have HS1 := Lib.hid HB1.out.size; clear hl hln hb)
    | (go_at_call 28; (with_reducible refine (HL.out _ HA2.out).mono ?_); rintro e w3 ⟨p3, c3, rfl, hm, hta, hb⟩; have HM := Lib.hid hm; have HTA := Lib.hid hta; have HB3 := Lib.hid (bTr HB2.out hb); have HL3 := Lib.hid (HL2.out.below hb); have HLN3 := Lib.hid (HLN.out.below hb); obtain ⟨q0, q1, q2⟩ := HL3.out.cells; have qf := HL3.out.frozen 2; have HS23 := Lib.hid hb.size; clear hm hta hb))
  have hsz : W.heap.size + 2 ≤ w1.heap.size := by have := (bRef W).size; have h := HR1.out; have := lt_of_heap h; omega
  have hL : w1.heap.size ≤ L := HLL.out
  have hL2 : L < w2.heap.size := by obtain ⟨sl, hl⟩ := HLN.out.ln; exact hl.top L rfl
  have hs23 : w2.heap.size ≤ w3.heap.size := by obtain ⟨sl, hl⟩ := HLN3.out.ln; exact HS23.out
  have hset : ButB W.heap.size w3 (w3.setCell ⟨W.heap.size, 2, none⟩ (.slice p3 sn c3)) := set_but 2 _
  have hown : ∀ j, 0 < sn → (Value.slice p3 sn c3).ownBlock = some j → w2.heap.size ≤ j := fun j h0 e => HM.out.own h0 e
  have hta4 : TArg (w3.setCell ⟨W.heap.size, 2, none⟩ (.slice p3 sn c3)) (.slice p3 sn c3) ts := HTA.out.but hset (fun h0 e => by have := hown _ (by rw [HSN.out]; exact h0) e; omega)
  have hln4 : LnB w0 (w3.setCell ⟨W.heap.size, 2, none⟩ (.slice p3 sn c3)) L (fun j => j = L) (LS.new r) := HLN3.out.butB hset (by show ¬ W.heap.size = L; omega) HW0.out.size (by omega)
  have hb4 : Below W.heap.size W (w3.setCell ⟨W.heap.size, 2, none⟩ (.slice p3 sn c3)) := bSet HB3.out _ (Nat.le_refl _) _
  have hsz4 : (w3.setCell ⟨W.heap.size, 2, none⟩ (.slice p3 sn c3)).heap.size = w3.heap.size := by simp
  go_ret2
  refine ⟨w3.heap.size, L, rfl, HB3.out.size, by omega, ?_, bAl hb4 _⟩
  generalize (w3.setCell ⟨W.heap.size, 2, none⟩ (.slice p3 sn c3)) = w4 at *
  refine ⟨⟨⟨b, c, .slice p3 sn c3, 0, 0, .slice none 0 0, 0, false⟩, ?_, ⟨⟨_, _, _, rfl⟩, _, _, _, rfl⟩, rfl, rfl, rfl, rfl, rfl, rfl, hta4.below (bAl (bRef w4) _), ⟨fun k hk => by simp [PL.new] at hk, .inl ⟨rfl, _, _, rfl, fun _ => rfl⟩⟩, fun h0 j e => ?_, fun h0 => by simp [PL.new] at h0, fun h0 j e => ?_, fun h0 => by simp [PL.new] at h0⟩, hln4.alloc _, by show ¬ w3.heap.size = L; omega, ?_, ⟨HGD.out.len, by simp [PL.new], by simp [PL.new], by simp [PL.new]⟩, new_good r, HR.out⟩
  · rw [← hsz4]
    exact heap_alloc_one w4 _
  · have h1 := hown j (by rw [HSN.out]; exact h0) e
    have h2 := hta4.lt (by exact h0) e
    exact ⟨by omega, by show ¬ j = L; omega⟩
  · obtain ⟨cur, hc⟩ := HM.out.tag (by rw [HSN.out]; exact h0) j e
    have h1 := hown j (by rw [HSN.out]; exact h0) e
    have h2 := hta4.lt (by exact h0) e
    exact ⟨cur, ((bAl (bRef w4) _).block j h2).trans ((hset.block j (by omega) (by omega)).trans hc)⟩
  · have := HW0.out.size
    have := HB3.out.size
    omega
end

end Go.Proofs.Ytllmfkodgalklaa
