/- Package ptp: Check, whole. -/
import Derived.Test.YtcdcklkbjfhhnaaPtCheck
namespace Go.Proofs.Ytcdcklkbjfhhnaa
open Go.RowKit Go.Joins

theorem ret_nat (x y : Nat) (h : x = y) : Ending.returned (Value.int .i64 (x : Int)) = .returned (.int .i64 (y : Int)) := by rw [h]
theorem In64.mems {l : List Int} (h : ∀ x, x ∈ l → In64 x) : ∀ x ∈ l, In64 x := h
/-- Check. -/
theorem check_any (m : Mg) (v : Value) (w : World) (hw : m.Wf) (hA : LArg w v m.path) (hl : m.path.length ≤ 140737488355328) :
    Calls Try.prog 12 #[MV m v] w fun e w' => e = .returned (.int .i64 (m.chk : Int)) ∧ Below w.heap.size w w' := by
  obtain ⟨p, c, rfl⟩ := hA.slice
  obtain ⟨f0, f1, f2, f3, f4, f5, f6, f7, f8, f9, f10, f11, f12, f13, f14, f15⟩ := hw
  have HK := Lib.hid (kind_ret m.kind _ rfl)
  have H0 := Lib.hid (within_row (most := 127) (ys := [m.dom]) rfl rfl (by simp only [List.mem_cons, List.not_mem_nil, or_false]; rintro y (rfl) <;> assumption) 1 rfl (by omega))
  have H1 := Lib.hid (within_row (most := 65535) (ys := [m.seq, m.port, m.tp]) rfl rfl (by simp only [List.mem_cons, List.not_mem_nil, or_false]; rintro y (rfl | rfl | rfl) <;> assumption) 3 rfl (by omega))
  have H2 := Lib.hid (within_row (most := 281474976710655) (ys := [m.src, m.tw, m.id]) rfl rfl (by simp only [List.mem_cons, List.not_mem_nil, or_false]; rintro y (rfl | rfl | rfl) <;> assumption) 3 rfl (by omega))
  have H3 := Lib.hid (within_row (most := 255) (ys := [m.one, m.cls, m.two, m.steps]) rfl rfl (by simp only [List.mem_cons, List.not_mem_nil, or_false]; rintro y (rfl | rfl | rfl | rfl) <;> assumption) 4 rfl (by omega))
  have HB := Lib.hid (beside_ret m p _ c rfl)
  have HP := Lib.hid (fun (wx : World) (hb : Below w.heap.size w wx) => within_any (most := 281474976710655) (hA.below hb) hl _ rfl)
  unfold MV at HB ⊢
  unfold Mg.chk
  generalize m.path.length = n at HB HP ⊢
  generalize m.besB = x5 at HB ⊢
  generalize winB 281474976710655 m.path = x7 at HP ⊢
  generalize winB 127 [m.dom] = x1 at H0 ⊢
  generalize winB 65535 [m.seq, m.port, m.tp] = x2 at H1 ⊢
  generalize winB 281474976710655 [m.src, m.tw, m.id] = x3 at H2 ⊢
  generalize winB 255 [m.one, m.cls, m.two, m.steps] = x4 at H3 ⊢
  generalize kindB m.kind = x0 at HK ⊢
  cases x0 with
  | false => exact chk_kind m.kind m.dom m.seq m.src m.port m.corr m.time m.tw m.tp m.rate m.one m.cls m.two m.id m.steps p n c w HK
  | true =>
  cases x1 with
  | false => exact chk_w0 m.kind m.dom m.seq m.src m.port m.corr m.time m.tw m.tp m.rate m.one m.cls m.two m.id m.steps p n c w HK H0
  | true =>
  cases x2 with
  | false => exact chk_w1 m.kind m.dom m.seq m.src m.port m.corr m.time m.tw m.tp m.rate m.one m.cls m.two m.id m.steps p n c w HK H0 H1
  | true =>
  cases x3 with
  | false => exact chk_w2 m.kind m.dom m.seq m.src m.port m.corr m.time m.tw m.tp m.rate m.one m.cls m.two m.id m.steps p n c w HK H0 H1 H2
  | true =>
  cases x4 with
  | false => exact chk_w3 m.kind m.dom m.seq m.src m.port m.corr m.time m.tw m.tp m.rate m.one m.cls m.two m.id m.steps p n c w HK H0 H1 H2 H3
  | true =>
  cases x5 with
  | true => exact chk_bes m.kind m.dom m.seq m.src m.port m.corr m.time m.tw m.tp m.rate m.one m.cls m.two m.id m.steps p n c w HK H0 H1 H2 H3 HB
  | false =>
  by_cases hn : 32 < n
  · simp only [Bool.and_self, Bool.not_false, if_true, if_pos hn]
    exact chk_many m.kind m.dom m.seq m.src m.port m.corr m.time m.tw m.tp m.rate m.one m.cls m.two m.id m.steps p n c w HK H0 H1 H2 H3 HB hn
  · simp only [Bool.and_self, Bool.not_false, if_true, if_neg hn]
    cases x7 with
    | false => exact chk_path m.kind m.dom m.seq m.src m.port m.corr m.time m.tw m.tp m.rate m.one m.cls m.two m.id m.steps p n c w HK H0 H1 H2 H3 HB hn HP
    | true => exact chk_ok m.kind m.dom m.seq m.src m.port m.corr m.time m.tw m.tp m.rate m.one m.cls m.two m.id m.steps p n c w HK H0 H1 H2 H3 HB hn HP

end Go.Proofs.Ytcdcklkbjfhhnaa
