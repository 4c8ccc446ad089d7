/- Package peer: Answer, More. -/
import Derived.Test.YtnfoimkiihfalaaPeIn2
namespace Go.Proofs.Ytnfoimkiihfalaa
open Go.RowKit Go.Joins

theorem two_new (w : World) (o o2 : Obj) : ((w.alloc o).alloc o2).heap[w.heap.size]? = some o ∧ ((w.alloc o).alloc o2).heap[w.heap.size + 1]? = some o2 := by
  have h := heap_alloc_new (w.alloc o) o2
  rw [show (w.alloc o).heap.size = w.heap.size + 1 by simp] at h
  exact ⟨(heap_alloc_old (w.alloc o) o2 (by simp)).trans (heap_alloc_new w o), h⟩
theorem rowc {w : World} {g k j : Nat} {cs : Array Value} {v : Value} (h : w.cell? ⟨k, j, none⟩ = some v) (hn : k ≠ g) : (w.setRow g cs).cell? ⟨k, j, none⟩ = some v := by
  rw [← h]
  unfold World.cell?
  rw [show (⟨k, j, none⟩ : Addr).block = k from rfl, setRow_off w g k cs hn]
/-- What isRight answers. -/
def RgtTo (w : World) (m : Mg) (v : Value) (k : Int) (x : Bool) : Prop := ∀ W, Below w.heap.size w W → Calls Try.prog 41 #[.agg (MC m v), .int .i64 k] W fun e w' => e = .returned (.bool x) ∧ Below W.heap.size W w'
theorem RgtTo.go {w : World} {m : Mg} {v : Value} {k : Int} {x : Bool} (h : RgtTo w m v k x) (W : World) (hW : Below w.heap.size w W) : Calls Try.prog 41 #[.agg (MC m v), .int .i64 k] W fun e w' => e = .returned (.bool x) ∧ Below W.heap.size W w' := h W hW
theorem rgt_kind (w : World) (m : Mg) (v : Value) {k : Int} (h : m.kind ≠ k) : RgtTo w m v k false := fun W _ => right_kind m v k W h
theorem rgt_chk {w : World} {m : Mg} {v : Value} {k : Int} (h : m.kind = k) {x : Nat} (hC : ChkTo w m v x) : RgtTo w m v k (decide (x = 0)) := fun W hW => right_chk m v k W h x (hC.mono hW)
set_option maxRecDepth 20000 in
theorem answer_no (b : Nat) (m : Mg) (v : Value) (x : Int) (w : World) (hR : RgtTo w m v 2 false) : Calls Try.prog 14 #[.pointer (some ⟨b, 0, none⟩), .agg (MC m v), .int .i64 x] w fun e w' => e = .returned (.tuple #[.agg ZC, .bool false]) ∧ Below w.heap.size w w' := by
  have HT := Lib.hid (two_new w (.cells (MC m v) 30) (.cells #[.int .i64 0, .int .i64 0, .int .i64 0, .int .i64 0, .int .i64 0, .int .i64 0, .int .i64 0, .int .i64 0, .int .i64 0, .int .i64 0, .int .i64 0, .int .i64 0, .int .i64 0, .int .i64 0, .int .i64 0, .slice none 0 0] 30))
  have HB0 := Lib.hid (bAl (bAl (bRef w) (.cells (MC m v) 30)) (.cells #[.int .i64 0, .int .i64 0, .int .i64 0, .int .i64 0, .int .i64 0, .int .i64 0, .int .i64 0, .int .i64 0, .int .i64 0, .int .i64 0, .int .i64 0, .int .i64 0, .int .i64 0, .int .i64 0, .int .i64 0, .slice none 0 0] 30))
  have HR := Lib.hid hR
  clear hR
  unfold MC
  go_enter Try.func14, Try.ntmps14
  go_wp2_with (first
    | ((with_reducible refine at_loadMG ?_); refine wpList_loadMG (by rfl) _ rfl w.heap.size rfl (MC m v) _ HT.out.1 rfl ?_)
    | (go_at_call 41; (refine (HR.out.go _ HB0.out).mono ?_); rintro e w1 ⟨rfl, hb⟩; have HB1 := Lib.hid (bTr HB0.out hb); have HZ1 := Lib.hid ((hb.block (w.heap.size + 1) (lt_of_heap HT.out.2)).trans HT.out.2); clear hb)
    | ((with_reducible refine at_buildZ ?_); refine wpList_buildZ rfl rfl ?_)
    | ((with_reducible refine at_storeM ?_); refine wpList_storeM rfl _ _ rfl (w.heap.size + 1) ZC rfl rfl (by simp [ZC, Value.oneCell']) rfl _ HZ1.out rfl ?_))
  refine bodyM2 rfl (w.heap.size + 1) ZC _ rfl rfl (setRow_heap _ _ _ _ _ _ HZ1.out) rfl rfl ?_
  exact ⟨rfl, below_setRow HB1.out (Nat.le_succ _) _⟩
set_option maxRecDepth 20000 in
theorem more_no (b : Nat) (m : Mg) (v : Value) (x : Int) (w : World) (hR : RgtTo w m v 3 false) : Calls Try.prog 16 #[.pointer (some ⟨b, 0, none⟩), .agg (MC m v), .int .i64 x] w fun e w' => e = .returned (.tuple #[.agg ZC, .bool false]) ∧ Below w.heap.size w w' := by
  have HT := Lib.hid (two_new w (.cells (MC m v) 30) (.cells #[.int .i64 0, .int .i64 0, .int .i64 0, .int .i64 0, .int .i64 0, .int .i64 0, .int .i64 0, .int .i64 0, .int .i64 0, .int .i64 0, .int .i64 0, .int .i64 0, .int .i64 0, .int .i64 0, .int .i64 0, .slice none 0 0] 30))
  have HB0 := Lib.hid (bAl (bAl (bRef w) (.cells (MC m v) 30)) (.cells #[.int .i64 0, .int .i64 0, .int .i64 0, .int .i64 0, .int .i64 0, .int .i64 0, .int .i64 0, .int .i64 0, .int .i64 0, .int .i64 0, .int .i64 0, .int .i64 0, .int .i64 0, .int .i64 0, .int .i64 0, .slice none 0 0] 30))
  have HR := Lib.hid hR
  clear hR
  unfold MC
  go_enter Try.func16, Try.ntmps16
  go_wp2_with (first
    | ((with_reducible refine at_loadMG ?_); refine wpList_loadMG (by rfl) _ rfl w.heap.size rfl (MC m v) _ HT.out.1 rfl ?_)
    | (go_at_call 41; (refine (HR.out.go _ HB0.out).mono ?_); rintro e w1 ⟨rfl, hb⟩; have HB1 := Lib.hid (bTr HB0.out hb); have HZ1 := Lib.hid ((hb.block (w.heap.size + 1) (lt_of_heap HT.out.2)).trans HT.out.2); clear hb)
    | ((with_reducible refine at_buildZ ?_); refine wpList_buildZ rfl rfl ?_)
    | ((with_reducible refine at_storeM ?_); refine wpList_storeM rfl _ _ rfl (w.heap.size + 1) ZC rfl rfl (by simp [ZC, Value.oneCell']) rfl _ HZ1.out rfl ?_))
  refine bodyM2 rfl (w.heap.size + 1) ZC _ rfl rfl (setRow_heap _ _ _ _ _ _ HZ1.out) rfl rfl ?_
  exact ⟨rfl, below_setRow HB1.out (Nat.le_succ _) _⟩
theorem Try.builtAns (q id port x src mp : Int) : Try.prog.built 30 [(0, .int .i64 3), (2, .int .i64 q), (3, .int .i64 id), (4, .int .i64 port), (6, .int .i64 x), (7, .int .i64 src), (8, .int .i64 mp)] = some (MC (RespM 3 q id port x src mp) (.slice none 0 0)) := by kernel_rfl
set_option maxRecDepth 20000 in
set_option maxHeartbeats 2000000 in
theorem answer_yes {b : Nat} {m : Mg} {v : Value} (x : Int) {w : World} {id port : Int} (hR : RgtTo w m v 2 true) (c0 : w.cell? ⟨b, 0, none⟩ = some (.int .i64 id)) (c1 : w.cell? ⟨b, 1, none⟩ = some (.int .i64 port)) : Calls Try.prog 14 #[.pointer (some ⟨b, 0, none⟩), .agg (MC m v), .int .i64 x] w fun e w' => e = .returned (.tuple #[.agg (MC (RespM 3 m.seq id port x m.src m.port) (.slice none 0 0)), .bool true]) ∧ Below w.heap.size w w' := by
  have HT := Lib.hid (two_new w (.cells (MC m v) 30) (.cells #[.int .i64 0, .int .i64 0, .int .i64 0, .int .i64 0, .int .i64 0, .int .i64 0, .int .i64 0, .int .i64 0, .int .i64 0, .int .i64 0, .int .i64 0, .int .i64 0, .int .i64 0, .int .i64 0, .int .i64 0, .slice none 0 0] 30))
  have HB0 := Lib.hid (bAl (bAl (bRef w) (.cells (MC m v) 30)) (.cells #[.int .i64 0, .int .i64 0, .int .i64 0, .int .i64 0, .int .i64 0, .int .i64 0, .int .i64 0, .int .i64 0, .int .i64 0, .int .i64 0, .int .i64 0, .int .i64 0, .int .i64 0, .int .i64 0, .int .i64 0, .slice none 0 0] 30))
  have HR := Lib.hid hR
  have C0 := Lib.hid c0
  have C1 := Lib.hid c1
  have hlt := block_lt_cell c0
  clear hR c0 c1
  unfold MC
  go_enter Try.func14, Try.ntmps14
  go_wp2_with (first
    | ((with_reducible refine at_loadMG ?_); refine wpList_loadMG (by rfl) _ rfl w.heap.size rfl (MC m v) _ HT.out.1 rfl ?_)
    | (go_at_call 41; (refine (HR.out.go _ HB0.out).mono ?_); rintro e w1 ⟨rfl, hb⟩; have hB1 := bTr HB0.out hb; have hz1 := (hb.block (w.heap.size + 1) (lt_of_heap HT.out.2)).trans HT.out.2; have hm1 := (hb.block w.heap.size (lt_of_heap HT.out.1)).trans HT.out.1; clear hb))
  have h0 : (fun V => V.cell? ⟨b, 0, none⟩ = some (.int .i64 id) ∧ V.cell? ⟨b, 1, none⟩ = some (.int .i64 port) ∧ V.cell? ⟨w.heap.size, 2, none⟩ = some (.int .i64 m.seq) ∧ V.cell? ⟨w.heap.size, 3, none⟩ = some (.int .i64 m.src) ∧ V.cell? ⟨w.heap.size, 4, none⟩ = some (.int .i64 m.port)) w1.drew := ⟨(hB1.cell (p := ⟨b, 0, none⟩) hlt).trans C0.out, (hB1.cell (p := ⟨b, 1, none⟩) hlt).trans C1.out, cell_of_row _ _ 2 _ _ _ hm1, cell_of_row _ _ 3 _ _ _ hm1, cell_of_row _ _ 4 _ _ _ hm1⟩
  refine wp_region_held_drew (S := fun V => V.cell? ⟨b, 0, none⟩ = some (.int .i64 id) ∧ V.cell? ⟨b, 1, none⟩ = some (.int .i64 port) ∧ V.cell? ⟨w.heap.size, 2, none⟩ = some (.int .i64 m.seq) ∧ V.cell? ⟨w.heap.size, 3, none⟩ = some (.int .i64 m.src) ∧ V.cell? ⟨w.heap.size, 4, none⟩ = some (.int .i64 m.port)) (by kernel_rfl) h0 (fun h0 => ?_)
  refine hTakeS (i := 0) (k := 16) (v := .pointer (some ⟨w.heap.size, 2, none⟩)) rfl rfl (by kernel_rfl) (by kernel_rfl) (by kernel_rfl) (fun _ _ _ h => h) (yieldsIf_val (by rfl) (by intro W; go_simp)) h0 ?_
  simp only [List.setIfInBounds_toArray, List.set_cons_zero, List.set_cons_succ]
  refine hTakeS (i := 1) (k := 17) (v := .int .i64 m.seq) rfl rfl (by kernel_rfl) (by kernel_rfl) (by kernel_rfl) (fun _ _ _ h => h) (.inl ⟨by rfl, fun W hW => by obtain ⟨b0, b1, m2, m3, m4⟩ := hW; go_simp⟩) h0 ?_
  simp only [List.setIfInBounds_toArray, List.set_cons_zero, List.set_cons_succ]
  refine hTakeS (i := 2) (k := 18) (v := .pointer (some ⟨b, 0, none⟩)) rfl rfl (by kernel_rfl) (by kernel_rfl) (by kernel_rfl) (fun _ _ _ h => h) (yieldsIf_val (by rfl) (by intro W; go_simp)) h0 ?_
  simp only [List.setIfInBounds_toArray, List.set_cons_zero, List.set_cons_succ]
  refine hTakeS (i := 3) (k := 19) (v := .pointer (some ⟨b, 0, none⟩)) rfl rfl (by kernel_rfl) (by kernel_rfl) (by kernel_rfl) (fun _ _ _ h => h) (yieldsIf_val (by rfl) (by intro W; go_simp)) h0 ?_
  simp only [List.setIfInBounds_toArray, List.set_cons_zero, List.set_cons_succ]
  refine hTakeS (i := 4) (k := 20) (v := .pointer (some ⟨b, 0, none⟩)) rfl rfl (by kernel_rfl) (by kernel_rfl) (by kernel_rfl) (fun _ _ _ h => h) (yieldsIf_val (by rfl) (by intro W; go_simp)) h0 ?_
  simp only [List.setIfInBounds_toArray, List.set_cons_zero, List.set_cons_succ]
  refine hTakeS (i := 5) (k := 21) (v := .pointer (some ⟨b, 0, none⟩)) rfl rfl (by kernel_rfl) (by kernel_rfl) (by kernel_rfl) (fun _ _ _ h => h) (yieldsIf_val (by rfl) (by intro W; go_simp)) h0 ?_
  simp only [List.setIfInBounds_toArray, List.set_cons_zero, List.set_cons_succ]
  refine hTakeS (i := 6) (k := 22) (v := .int .i64 id) rfl rfl (by kernel_rfl) (by kernel_rfl) (by kernel_rfl) (fun _ _ _ h => h) (.inl ⟨by rfl, fun W hW => by obtain ⟨b0, b1, m2, m3, m4⟩ := hW; go_simp⟩) h0 ?_
  simp only [List.setIfInBounds_toArray, List.set_cons_zero, List.set_cons_succ]
  refine hTakeS (i := 7) (k := 23) (v := .pointer (some ⟨b, 0, none⟩)) rfl rfl (by kernel_rfl) (by kernel_rfl) (by kernel_rfl) (fun _ _ _ h => h) (yieldsIf_val (by rfl) (by intro W; go_simp)) h0 ?_
  simp only [List.setIfInBounds_toArray, List.set_cons_zero, List.set_cons_succ]
  refine hTakeS (i := 8) (k := 24) (v := .pointer (some ⟨b, 0, none⟩)) rfl rfl (by kernel_rfl) (by kernel_rfl) (by kernel_rfl) (fun _ _ _ h => h) (yieldsIf_val (by rfl) (by intro W; go_simp)) h0 ?_
  simp only [List.setIfInBounds_toArray, List.set_cons_zero, List.set_cons_succ]
  refine hTakeS (i := 9) (k := 25) (v := .pointer (some ⟨b, 0, none⟩)) rfl rfl (by kernel_rfl) (by kernel_rfl) (by kernel_rfl) (fun _ _ _ h => h) (yieldsIf_val (by rfl) (by intro W; go_simp)) h0 ?_
  simp only [List.setIfInBounds_toArray, List.set_cons_zero, List.set_cons_succ]
  refine hTakeS (i := 10) (k := 26) (v := .pointer (some ⟨b, 1, none⟩)) rfl rfl (by kernel_rfl) (by kernel_rfl) (by kernel_rfl) (fun _ _ _ h => h) (yieldsIf_val (by rfl) (by intro W; go_simp)) h0 ?_
  simp only [List.setIfInBounds_toArray, List.set_cons_zero, List.set_cons_succ]
  refine hTakeS (i := 11) (k := 27) (v := .int .i64 port) rfl rfl (by kernel_rfl) (by kernel_rfl) (by kernel_rfl) (fun _ _ _ h => h) (.inl ⟨by rfl, fun W hW => by obtain ⟨b0, b1, m2, m3, m4⟩ := hW; go_simp⟩) h0 ?_
  simp only [List.setIfInBounds_toArray, List.set_cons_zero, List.set_cons_succ]
  refine hTakeS (i := 12) (k := 28) (v := .int .i64 x) rfl rfl (by kernel_rfl) (by kernel_rfl) (by kernel_rfl) (fun _ _ _ h => h) (yieldsIf_val (by rfl) (by intro W; go_simp)) h0 ?_
  simp only [List.setIfInBounds_toArray, List.set_cons_zero, List.set_cons_succ]
  refine hTakeS (i := 13) (k := 29) (v := .pointer (some ⟨w.heap.size, 3, none⟩)) rfl rfl (by kernel_rfl) (by kernel_rfl) (by kernel_rfl) (fun _ _ _ h => h) (yieldsIf_val (by rfl) (by intro W; go_simp)) h0 ?_
  simp only [List.setIfInBounds_toArray, List.set_cons_zero, List.set_cons_succ]
  refine hTakeS (i := 14) (k := 30) (v := .int .i64 m.src) rfl rfl (by kernel_rfl) (by kernel_rfl) (by kernel_rfl) (fun _ _ _ h => h) (.inl ⟨by rfl, fun W hW => by obtain ⟨b0, b1, m2, m3, m4⟩ := hW; go_simp⟩) h0 ?_
  simp only [List.setIfInBounds_toArray, List.set_cons_zero, List.set_cons_succ]
  refine hTakeS (i := 15) (k := 31) (v := .pointer (some ⟨w.heap.size, 4, none⟩)) rfl rfl (by kernel_rfl) (by kernel_rfl) (by kernel_rfl) (fun _ _ _ h => h) (yieldsIf_val (by rfl) (by intro W; go_simp)) h0 ?_
  simp only [List.setIfInBounds_toArray, List.set_cons_zero, List.set_cons_succ]
  refine hTakeS (i := 16) (k := 32) (v := .int .i64 m.port) rfl rfl (by kernel_rfl) (by kernel_rfl) (by kernel_rfl) (fun _ _ _ h => h) (.inl ⟨by rfl, fun W hW => by obtain ⟨b0, b1, m2, m3, m4⟩ := hW; go_simp⟩) h0 ?_
  simp only [List.setIfInBounds_toArray, List.set_cons_zero, List.set_cons_succ]
  refine hTakeS (i := 17) (k := 33) (v := .agg (MC (RespM 3 m.seq id port x m.src m.port) (.slice none 0 0))) rfl rfl (by kernel_rfl) (by kernel_rfl) (by kernel_rfl) (fun _ _ _ h => h) (yieldsIf_val (by rfl) (fun W => build_opG _ _ rfl _ (by simp only [List.map_toArray, List.map_cons, List.map_nil]; exact Try.builtAns m.seq id port x m.src m.port) W)) h0 ?_
  simp only [List.setIfInBounds_toArray, List.set_cons_zero, List.set_cons_succ]
  have hX : (fun V => V.cell? ⟨b, 0, none⟩ = some (.int .i64 id) ∧ V.cell? ⟨b, 1, none⟩ = some (.int .i64 port) ∧ V.cell? ⟨w.heap.size, 2, none⟩ = some (.int .i64 m.seq) ∧ V.cell? ⟨w.heap.size, 3, none⟩ = some (.int .i64 m.src) ∧ V.cell? ⟨w.heap.size, 4, none⟩ = some (.int .i64 m.port)) (w1.drew.setRow (w.heap.size + 1) (MC (RespM 3 m.seq id port x m.src m.port) (.slice none 0 0))) := ⟨(rowc h0.1 (by omega)), (rowc h0.2.1 (by omega)), rowc h0.2.2.1 (by omega), rowc h0.2.2.2.1 (by omega), rowc h0.2.2.2.2 (by omega)⟩
  refine hOneNS (i := 18) (w' := (w1.drew.setRow (w.heap.size + 1) (MC (RespM 3 m.seq id port x m.src m.port) (.slice none 0 0)))) (by kernel_rfl) rfl rfl (by rfl) (store_opG _ _ _ rfl (w.heap.size + 1) (MC (RespM 3 m.seq id port x m.src m.port) (.slice none 0 0)) rfl rfl _ _ _ hz1 (by kernel_rfl) rfl (MC_one _ _ _ _)) hX ?_
  refine hOneS (i := 19) (k := 7) (v := .bool true) (by kernel_rfl) rfl rfl (by rfl) (by go_simp) hX ?_
  simp only [List.setIfInBounds_toArray, List.set_cons_zero, List.set_cons_succ]
  refine wpAnyH_done (by kernel_rfl) ?_ _
  go_wp2_with fail
  refine bodyM2 rfl (w.heap.size + 1) (MC (RespM 3 m.seq id port x m.src m.port) (.slice none 0 0)) _ rfl rfl (setRow_heap _ _ _ _ _ _ hz1) rfl rfl ?_
  exact ⟨rfl, below_setRow (bDr1 hB1) (Nat.le_succ _) _⟩
set_option maxRecDepth 20000 in
set_option maxHeartbeats 2000000 in
theorem more_yes (b : Nat) {m : Mg} {v : Value} (x : Int) {w : World} (hR : RgtTo w m v 3 true) : Calls Try.prog 16 #[.pointer (some ⟨b, 0, none⟩), .agg (MC m v), .int .i64 x] w fun e w' => e = .returned (.tuple #[.agg (MC { m with kind := 10, time := x, path := [] } (.slice none 0 0)), .bool true]) ∧ Below w.heap.size w w' := by
  have HT := Lib.hid (two_new w (.cells (MC m v) 30) (.cells #[.int .i64 0, .int .i64 0, .int .i64 0, .int .i64 0, .int .i64 0, .int .i64 0, .int .i64 0, .int .i64 0, .int .i64 0, .int .i64 0, .int .i64 0, .int .i64 0, .int .i64 0, .int .i64 0, .int .i64 0, .slice none 0 0] 30))
  have HB0 := Lib.hid (bAl (bAl (bRef w) (.cells (MC m v) 30)) (.cells #[.int .i64 0, .int .i64 0, .int .i64 0, .int .i64 0, .int .i64 0, .int .i64 0, .int .i64 0, .int .i64 0, .int .i64 0, .int .i64 0, .int .i64 0, .int .i64 0, .int .i64 0, .int .i64 0, .int .i64 0, .slice none 0 0] 30))
  have HR := Lib.hid hR
  clear hR
  unfold MC
  go_enter Try.func16, Try.ntmps16
  go_wp2_with (first
    | ((with_reducible refine at_loadMG ?_); refine wpList_loadMG (by rfl) _ rfl w.heap.size rfl (MC m v) _ HT.out.1 rfl ?_)
    | (go_at_call 41; (refine (HR.out.go _ HB0.out).mono ?_); rintro e w1 ⟨rfl, hb⟩; have HB1 := Lib.hid (bTr HB0.out hb); have hz1 := (hb.block (w.heap.size + 1) (lt_of_heap HT.out.2)).trans HT.out.2; have hm1 := (hb.block w.heap.size (lt_of_heap HT.out.1)).trans HT.out.1; have n0 : w1.cell? ⟨w.heap.size, 0, none⟩ = some (.int .i64 m.kind) := cell_of_row _ _ _ _ _ _ hm1; have n6 : w1.cell? ⟨w.heap.size, 6, none⟩ = some (.int .i64 m.time) := cell_of_row _ _ _ _ _ _ hm1; have n15 : w1.cell? ⟨w.heap.size, 15, none⟩ = some v := cell_of_row _ _ _ _ _ _ hm1; have nf : ∀ i, w1.frozen? ⟨w.heap.size, i, none⟩ = false := (fun i => frozen_of_row _ _ _ _ _ hm1); have HM3 := Lib.hid (heap_setCell_same _ w.heap.size 15 _ _ (.slice none 0 0) (heap_setCell_same _ w.heap.size 6 _ _ (.int .i64 x) (heap_setCell_same w1 w.heap.size 0 _ _ (.int .i64 10) hm1))); have HZ3 := Lib.hid ((heap_setCell_other ((w1.setCell ⟨w.heap.size, 0, none⟩ (.int .i64 10)).setCell ⟨w.heap.size, 6, none⟩ (.int .i64 x)) ⟨w.heap.size, 15, none⟩ (w.heap.size + 1) (.slice none 0 0) (by show w.heap.size + 1 ≠ w.heap.size; omega)).trans ((heap_setCell_other (w1.setCell ⟨w.heap.size, 0, none⟩ (.int .i64 10)) ⟨w.heap.size, 6, none⟩ (w.heap.size + 1) (.int .i64 x) (by show w.heap.size + 1 ≠ w.heap.size; omega)).trans ((heap_setCell_other w1 ⟨w.heap.size, 0, none⟩ (w.heap.size + 1) (.int .i64 10) (by show w.heap.size + 1 ≠ w.heap.size; omega)).trans hz1))); clear hb hz1 hm1)
    | ((with_reducible refine at_loadM ?_); refine wpList_loadM rfl _ rfl w.heap.size rfl (MC { m with kind := 10, time := x, path := [] } (.slice none 0 0)) _ HM3.out rfl ?_)
    | ((with_reducible refine at_storeM ?_); refine wpList_storeM rfl _ _ rfl (w.heap.size + 1) (MC { m with kind := 10, time := x, path := [] } (.slice none 0 0)) rfl rfl (MC_one _ _ _ _) rfl _ HZ3.out rfl ?_))
  refine bodyM2 rfl (w.heap.size + 1) (MC { m with kind := 10, time := x, path := [] } (.slice none 0 0)) _ rfl rfl (setRow_heap _ _ _ _ _ _ HZ3.out) rfl rfl ?_
  exact ⟨rfl, below_setRow (bSet (bSet (bSet HB1.out ⟨w.heap.size, 0, none⟩ (Nat.le_refl _) _) ⟨w.heap.size, 6, none⟩ (Nat.le_refl _) _) ⟨w.heap.size, 15, none⟩ (Nat.le_refl _) _) (Nat.le_succ _) _⟩

end Go.Proofs.Ytnfoimkiihfalaa
