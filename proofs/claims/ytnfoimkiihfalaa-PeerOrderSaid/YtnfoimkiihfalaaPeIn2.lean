/- Package peer: the second half of an answer; halves out of order; right messages. -/
import Derived.Test.YtnfoimkiihfalaaPeIn
namespace Go.Proofs.Ytnfoimkiihfalaa
open Go.RowKit Go.Joins

/-- A half of an answer. -/
def RespM (k q src port t tw tp : Int) : Mg := ⟨k, 0, q, src, port, 0, t, tw, tp, 0, 0, 0, 0, 0, 0, []⟩
theorem resp_chk {k q src port t tw tp : Int} (hk : k = 3 ∨ k = 10) (q0 : 0 ≤ q) (q1 : q ≤ 65535) (s0 : 0 ≤ src) (s1 : src ≤ 281474976710655) (p0 : 0 ≤ port) (p1 : port ≤ 65535) (w0 : 0 ≤ tw) (w1 : tw ≤ 281474976710655) (v0 : 0 ≤ tp) (v1 : tp ≤ 65535) : (RespM k q src port t tw tp).chk = 0 := by
  rcases hk with rfl | rfl
  all_goals
    simp [RespM, Mg.chk, Mg.besB, Mg.bestB, Mg.ans, kindB, winB]
    omega
theorem resp_to {k q src port t tw tp : Int} (w : World) (hk : k = 3 ∨ k = 10) (q0 : 0 ≤ q) (q1 : q ≤ 65535) (s0 : 0 ≤ src) (s1 : src ≤ 281474976710655) (p0 : 0 ≤ port) (p1 : port ≤ 65535) (w0 : 0 ≤ tw) (w1 : tw ≤ 281474976710655) (v0 : 0 ≤ tp) (v1 : tp ≤ 65535) (ht : In64 t) : ChkTo w (RespM k q src port t tw tp) (.slice none 0 0) 0 := by
  have h := ChkTo.of (w := w) (m := RespM k q src port t tw tp) (v := .slice none 0 0) ⟨by show In64 k; unfold In64; omega, in64_0, by show In64 q; unfold In64; omega, by show In64 src; unfold In64; omega, by show In64 port; unfold In64; omega, in64_0, ht, by show In64 tw; unfold In64; omega, by show In64 tp; unfold In64; omega, in64_0, in64_0, in64_0, in64_0, in64_0, in64_0, fun x hx => by simp [RespM] at hx⟩ (lnil w) (by simp [RespM])
  rw [resp_chk hk q0 q1 s0 s1 p0 p1 w0 w1 v0 v1] at h
  exact h
section
variable {w : World} {b : Nat} {s : PS}
set_option maxHeartbeats 1000000 in
theorem in_more (h : Pr w b s) (m : Mg) (v : Value) (x : Int) {s' : PS} (h1 : m.seq = s.seq) (h2 : m.tw = s.id) (h3 : m.tp = s.port) (h4 : s.stage = 3) (h5 : m.kind = 10) (hC : ChkTo w m v 0)
    (HE : ∀ W, Pr W b s → Calls Try.prog 46 #[.pointer (some ⟨b, 0, none⟩), .int .i64 m.time] W fun e w' => e = .returned (.int .i64 0) ∧ Leave b W s' w') :
    Calls Try.prog 20 #[.pointer (some ⟨b, 0, none⟩), .agg (MC m v), .int .i64 x] w fun e w' => e = .returned (.int .i64 0) ∧ Leave b w s' w' := by
  have HP := Lib.hid h
  have HEE := Lib.hid HE
  obtain ⟨u, h⟩ := h
  have c0 := h.c0
  have c1 := h.c1
  have c6 := h.c6
  have c7 := h.c7
  have hlt := h.lt
  have d1 := bool_ne h1
  have d2 := bool_ne h2
  have d3 := bool_ne h3
  rw [h4] at c7
  have HR : Hid (∀ W, Below w.heap.size w W → Calls Try.prog 41 #[.agg (MC m v), .int .i64 10] W fun e w' => e = .returned (.bool true) ∧ Below W.heap.size W w') := Lib.hid (fun W hW => right_chk m v 10 W h5 0 (hC.mono hW))
  clear h h1 h2 h3 h4 h5 hC HE
  unfold MC
  go_enter Try.func20, Try.ntmps20
  go_wp2_with fail
  go_quiet (fail)
  go_wp2_with (first
    | ((with_reducible refine at_loadMG ?_); refine wpList_loadMG (by rfl) _ rfl w.heap.size rfl (MC m v) _ (new_drewN w _ _) rfl ?_)
    | (go_at_call 41; (with_reducible refine (HR.out _ (bDr (bAl (bRef w) _) _)).mono ?_); rintro e w1 ⟨rfl, hb⟩; have hb2 := bTr (bDr (bAl (bRef w) _) _) hb; have HP1 := Lib.hid (HP.out.below hb2); have HB1 := Lib.hid hb2; have m6 : w1.cell? ⟨w.heap.size, 6, none⟩ = some (.int .i64 m.time) := (hb.cell (p := ⟨w.heap.size, 6, none⟩) (by simp)).trans (cell_of_row _ _ _ _ _ _ (heap_alloc_new w _)); have k7 := (hb2.cell (p := ⟨b, 7, none⟩) hlt).trans c7; clear hb hb2)
    | (go_at_call 46; (with_reducible refine (HEE.out _ HP1.out).mono ?_); rintro e w2 ⟨rfl, hp, hb⟩; have HF := Lib.hid hp; have HG := Lib.hid ((ButB.of_below (b := b) HB1.out).trans hb); clear hp hb))
  go_ret
  exact ⟨rfl, HF.out, HG.out⟩
set_option maxHeartbeats 1000000 in
theorem in_early (h : Pr w b s) (m : Mg) (v : Value) (x : Int) (h1 : m.seq = s.seq) (h2 : m.tw = s.id) (h3 : m.tp = s.port) (h4 : s.stage = 2) (h5 : m.kind ≠ 3) : Calls Try.prog 20 #[.pointer (some ⟨b, 0, none⟩), .agg (MC m v), .int .i64 x] w fun e w' => e = .returned (.int .i64 31) ∧ Below w.heap.size w w' := by
  obtain ⟨u, h⟩ := h
  have c0 := h.c0
  have c1 := h.c1
  have c6 := h.c6
  have c7 := h.c7
  have hlt := h.lt
  have d1 := bool_ne h1
  have d2 := bool_ne h2
  have d3 := bool_ne h3
  rw [h4] at c7
  have HR : Hid (∀ W, Calls Try.prog 41 #[.agg (MC m v), .int .i64 3] W fun e w' => e = .returned (.bool false) ∧ Below W.heap.size W w') := Lib.hid (fun W => right_kind m v 3 W h5)
  clear h h1 h2 h3 h4 h5
  unfold MC
  go_enter Try.func20, Try.ntmps20
  go_wp2_with fail
  go_quiet (fail)
  go_wp2_with (first
    | ((with_reducible refine at_loadMG ?_); refine wpList_loadMG (by rfl) _ rfl w.heap.size rfl (MC m v) _ (new_drewN w _ _) rfl ?_)
    | (go_at_call 41; (with_reducible refine (HR.out _).mono ?_); rintro e w1 ⟨rfl, hb⟩; have HB1 := Lib.hid (bTr (bDr (bAl (bRef w) _) _) hb); have k7 := (HB1.out.cell (p := ⟨b, 7, none⟩) hlt).trans c7; clear hb))
  go_ret
  exact ⟨rfl, HB1.out⟩
set_option maxHeartbeats 1000000 in
theorem in_twice (h : Pr w b s) (m : Mg) (v : Value) (x : Int) (h1 : m.seq = s.seq) (h2 : m.tw = s.id) (h3 : m.tp = s.port) (h4 : s.stage = 3) (h5 : m.kind ≠ 10) : Calls Try.prog 20 #[.pointer (some ⟨b, 0, none⟩), .agg (MC m v), .int .i64 x] w fun e w' => e = .returned (.int .i64 31) ∧ Below w.heap.size w w' := by
  obtain ⟨u, h⟩ := h
  have c0 := h.c0
  have c1 := h.c1
  have c6 := h.c6
  have c7 := h.c7
  have hlt := h.lt
  have d1 := bool_ne h1
  have d2 := bool_ne h2
  have d3 := bool_ne h3
  rw [h4] at c7
  have HR : Hid (∀ W, Calls Try.prog 41 #[.agg (MC m v), .int .i64 10] W fun e w' => e = .returned (.bool false) ∧ Below W.heap.size W w') := Lib.hid (fun W => right_kind m v 10 W h5)
  clear h h1 h2 h3 h4 h5
  unfold MC
  go_enter Try.func20, Try.ntmps20
  go_wp2_with fail
  go_quiet (fail)
  go_wp2_with (first
    | ((with_reducible refine at_loadMG ?_); refine wpList_loadMG (by rfl) _ rfl w.heap.size rfl (MC m v) _ (new_drewN w _ _) rfl ?_)
    | (go_at_call 41; (with_reducible refine (HR.out _).mono ?_); rintro e w1 ⟨rfl, hb⟩; have HB1 := Lib.hid (bTr (bDr (bAl (bRef w) _) _) hb); have k7 := (HB1.out.cell (p := ⟨b, 7, none⟩) hlt).trans c7; clear hb))
  go_ret
  exact ⟨rfl, HB1.out⟩
end

end Go.Proofs.Ytnfoimkiihfalaa
