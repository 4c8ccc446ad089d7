/- Package sieve: one stream with a gate: In. -/
import Derived.Test.YtpdfgdjomlogbabSvGate
namespace Go.Proofs.Ytpdfgdjomlogbab
open Go.RowKit Go.Joins

section
variable {w W W' : World} {b g cap h hc : Nat} {f : Fl} {B C : Int} {sl : Value} {ts : List (Int × Int)}
theorem NG.gb (n : NG w b g cap h hc f B C sl ts W) : b + 1 ≤ g := (row_lt n.row (k := g) rfl).1
theorem NG.put (n : NG w b g cap h hc f B C sl ts W) (j : Nat) (hj : j < 21) (u : Value) (f' : Fl) (hf : (FA f').toList = (FA f).toList.set j u) : NG w b g cap h hc f' B C sl ts (W.setCell ⟨g, j, none⟩ u) := by
  have hgb := n.gb
  have hbb := n.bb
  have hh : ∀ k, k ≠ g → (W.setCell ⟨g, j, none⟩ u).heap[k]? = W.heap[k]? := fun k hk => heap_setCell_other _ _ _ _ (by simpa using hk)
  refine ⟨(hh b (by omega)).trans n.box, ?_, ?_, n.arg.keep (by simp) fun _ k hk => hh k (n.ne.2.2 k hk).2, by simpa using n.hlt, n.ne, n.caps, n.bel.setCell (by show w.heap.size ≤ g; omega) _, n.bb⟩
  · have := (n.row.stored j u).1
    rw [show (fv [f]).set j u = fv [f'] by
      show ((FA f).toList ++ []).set j u = (FA f').toList ++ []
      rw [List.append_nil, List.append_nil, hf]] at this
    exact this
  · have e := hh h n.ne.2.1
    exact ⟨(cell_block e).trans n.gate.1, (cell_block e).trans n.gate.2.1, (cell_block e).trans n.gate.2.2⟩
theorem NG.farg (n : NG w b g cap h hc f B C sl ts W) : FArg W (.slice (some ⟨g, 0, none⟩) 1 cap) [f] := by
  refine .inr ⟨by simp, g, cap, rfl, (row_lt n.row (k := g) rfl).2, n.caps.1, fun k hk j u hu => ?_⟩
  have : k = 0 := by simpa using hk
  subst this
  have hj : j < 21 := by
    have := (List.getElem?_eq_some_iff.1 hu).1
    simpa [FA_size] using this
  rw [Nat.zero_mul, Nat.zero_add, n.at j hj]; exact hu
end
theorem find_f (f : Fl) (p v : Int) (d s : M6) (h : Fits f.st p v d s) : findI [f] p v d s = 0 := firstI_some (k := 0) (by simp) (decide_eq_true h) (fun i hi => absurd hi (Nat.not_lt_zero i))
def bumpG (f : Fl) (what : Int) : Fl := if what = 0 then { f with c0 := wrap64 (f.c0 + 1) } else { f with c3 := wrap64 (f.c3 + 1) }
set_option maxHeartbeats 4000000 in
theorem in_gate {w W : World} {b g cap h hc : Nat} {f : Fl} {B C : Int} {sl : Value} {ts : List (Int × Int)} (n : NG w b g cap h hc f B C sl ts W) (h0 : f.bl = false) (h1 : f.st.max = 0) (h2 : f.st.gate = 0) (h3 : f.st.rate = -1) (now p v : Int) (d s : M6) (prio size : Int) (hfit : Fits f.st p v d s) :
    Calls Try.prog 10 #[.pointer (some ⟨b, 0, none⟩), .int .i64 now, .int .i64 p, .int .i64 v, MV d, MV s, .int .i64 prio, .int .i64 size] W fun e w' => (∃ pr, e = .returned (.tuple #[.int .i64 0, .int .i64 pr, .bool false, .int .i64 (gateV B C ts now)])) ∧ NG w b g cap h hc (bumpG f (gateV B C ts now)) B C sl ts w' := by
  have HN1 := Lib.hid ((n.below (bAl (bRef W) (.cells (MC d) 26))).below (bAl (bRef _) (.cells (MC s) 26)))
  have hB := bAl (bAl (bRef W) (.cells (MC d) 26)) (.cells (MC s) 26)
  have HFI := Lib.hid (fun W' (hb : Below W.heap.size W W') => find_any (n.box.below hb) (n.farg.below hb) (by simp) p v d s)
  rw [find_f f p v d s hfit] at HFI
  have HB := Lib.hid hB
  have HPA := Lib.hid (fun W' (hh : NG w b g cap h hc f B C sl ts W') => pass_gate hh h0 h1 h2 h3 now size)
  have hcap := n.caps.1
  have hq : gateV B C ts now = 3 ∨ gateV B C ts now = 0 := by unfold gateV; split <;> simp
  obtain ⟨q, hqe⟩ : ∃ q, gateV B C ts now = q := ⟨_, rfl⟩
  rw [hqe] at HPA hq ⊢
  clear n hB h0 h1 h2 h3 hfit hqe
  rcases hq with rfl | rfl
  · rw [show bumpG f 3 = { f with c3 := wrap64 (f.c3 + 1) } from if_neg (by decide)]
    go_enter Try.func10, Try.ntmps10
    go_wp2_with (first
      | (go_at_call 12; (with_reducible refine (HFI.out _ HB.out).mono ?_); rintro e w2 ⟨rfl, hb⟩; have HN2 := Lib.hid (HN1.out.below hb); have b0 := cell_of_row _ _ 0 _ _ _ HN2.out.box; clear hb)
      | (go_at_call 19; (with_reducible refine (HPA.out _ HN2.out).mono ?_); rintro e w3 ⟨rfl, hb⟩; have HN3 := Lib.hid (HN2.out.below hb); clear hb; have cc : w3.cell? ⟨g, 18, none⟩ = some (.int .i64 f.c3) := HN3.out.at 18 (by omega); have c10 : w3.cell? ⟨g, 10, none⟩ = some (.int .i64 f.st.prio) := HN3.out.at 10 (by omega); have zz := HN3.out.fz 18))
    go_region
    all_goals (
      go_wp2_with fail
      exact bodyPost_ret (v := .tuple #[.int .i64 0, .int .i64 0, .bool false, .int .i64 3]) (by simp [results, Try.results10, go_sem]) rfl ⟨⟨_, rfl⟩, (by first | exact (HN3.out.put 18 (by omega) _ { f with c3 := wrap64 (f.c3 + 1) } rfl).below (bDr (bRef _) _) | exact (HN3.out.below (bDr (bRef _) _)).put 18 (by omega) _ { f with c3 := wrap64 (f.c3 + 1) } rfl)⟩)
  · rw [show bumpG f 0 = { f with c0 := wrap64 (f.c0 + 1) } from if_pos rfl]
    by_cases hp : f.st.prio = -1
    · have d3 : (f.st.prio != -1) = false := by simpa using hp
      clear hp
      go_enter Try.func10, Try.ntmps10
      go_wp2_with (first
        | (go_at_call 12; (with_reducible refine (HFI.out _ HB.out).mono ?_); rintro e w2 ⟨rfl, hb⟩; have HN2 := Lib.hid (HN1.out.below hb); have b0 := cell_of_row _ _ 0 _ _ _ HN2.out.box; clear hb)
        | (go_at_call 19; (with_reducible refine (HPA.out _ HN2.out).mono ?_); rintro e w3 ⟨rfl, hb⟩; have HN3 := Lib.hid (HN2.out.below hb); clear hb; have cc : w3.cell? ⟨g, 15, none⟩ = some (.int .i64 f.c0) := HN3.out.at 15 (by omega); have c10 : w3.cell? ⟨g, 10, none⟩ = some (.int .i64 f.st.prio) := HN3.out.at 10 (by omega); have zz := HN3.out.fz 15))
      go_region
      all_goals (
        go_wp2_with fail
        exact bodyPost_ret (v := .tuple #[.int .i64 0, .int .i64 prio, .bool false, .int .i64 0]) (by simp [results, Try.results10, go_sem]) rfl ⟨⟨_, rfl⟩, (by first | exact (HN3.out.put 15 (by omega) _ { f with c0 := wrap64 (f.c0 + 1) } rfl).below (bDr (bRef _) _) | exact (HN3.out.below (bDr (bRef _) _)).put 15 (by omega) _ { f with c0 := wrap64 (f.c0 + 1) } rfl)⟩)
    · have d3 : (f.st.prio != -1) = true := by simpa using hp
      clear hp
      go_enter Try.func10, Try.ntmps10
      go_wp2_with (first
        | (go_at_call 12; (with_reducible refine (HFI.out _ HB.out).mono ?_); rintro e w2 ⟨rfl, hb⟩; have HN2 := Lib.hid (HN1.out.below hb); have b0 := cell_of_row _ _ 0 _ _ _ HN2.out.box; clear hb)
        | (go_at_call 19; (with_reducible refine (HPA.out _ HN2.out).mono ?_); rintro e w3 ⟨rfl, hb⟩; have HN3 := Lib.hid (HN2.out.below hb); clear hb; have cc : w3.cell? ⟨g, 15, none⟩ = some (.int .i64 f.c0) := HN3.out.at 15 (by omega); have c10 : w3.cell? ⟨g, 10, none⟩ = some (.int .i64 f.st.prio) := HN3.out.at 10 (by omega); have zz := HN3.out.fz 15))
      go_region
      all_goals (
        go_wp2_with fail
        exact bodyPost_ret (v := .tuple #[.int .i64 0, .int .i64 f.st.prio, .bool false, .int .i64 0]) (by simp [results, Try.results10, go_sem]) rfl ⟨⟨_, rfl⟩, (by first | exact (HN3.out.put 15 (by omega) _ { f with c0 := wrap64 (f.c0 + 1) } rfl).below (bDr (bRef _) _) | exact (HN3.out.below (bDr (bRef _) _)).put 15 (by omega) _ { f with c0 := wrap64 (f.c0 + 1) } rfl)⟩)

end Go.Proofs.Ytpdfgdjomlogbab
