/- PtpKinds, its ways. -/
import Derived.Test.YtcdcklkbjfhhnaaPtHead
import Derived.Deep.CutBlock
namespace Go.Proofs.Ytcdcklkbjfhhnaa
open Go.RowKit Go.Joins

/-- In every later world. -/
def Aft (w : World) (f : Nat) (args : Array Value) (v : Value) : Prop := ∀ wx, Below w.heap.size w wx → Calls Try.prog f args wx fun e w' => e = .returned v ∧ Below wx.heap.size wx w'
theorem Aft.go {w : World} {f : Nat} {args : Array Value} {v : Value} (h : Aft w f args v) (wx : World) (hb : Below w.heap.size w wx) : Calls Try.prog f args wx fun e w' => e = .returned v ∧ Below wx.heap.size wx w' := h wx hb
/-- Encode's length and error. -/
def EncL (w : World) (args : Array Value) (l : Nat) : Prop := ∀ wx, Below w.heap.size w wx → Calls Try.prog 9 args wx fun e w' => ∃ g c, e = .returned (.tuple #[.slice (some ⟨g, 0, none⟩) l c, .int .i64 0]) ∧ Below wx.heap.size wx w'
theorem EncL.go {w : World} {args : Array Value} {l : Nat} (h : EncL w args l) (wx : World) (hb : Below w.heap.size w wx) : Calls Try.prog 9 args wx fun e w' => ∃ g c, e = .returned (.tuple #[.slice (some ⟨g, 0, none⟩) l c, .int .i64 0]) ∧ Below wx.heap.size wx w' := h wx hb
def EncE (w : World) (args : Array Value) (x : Nat) : Prop := ∀ wx, Below w.heap.size w wx → Calls Try.prog 9 args wx fun e w' => ∃ v, e = .returned (.tuple #[v, .int .i64 (x : Int)]) ∧ Below wx.heap.size wx w'
theorem EncE.go {w : World} {args : Array Value} {x : Nat} (h : EncE w args x) (wx : World) (hb : Below w.heap.size w wx) : Calls Try.prog 9 args wx fun e w' => ∃ v, e = .returned (.tuple #[v, .int .i64 (x : Int)]) ∧ Below wx.heap.size wx w' := h wx hb

theorem kinds_long (m : Mg) (p : Option Addr) (n c : Nat) (k : Int) (w : World) (h : 32 < n) :
    Calls Try.prog 6 #[MV m (.slice p n c), .int .i64 k] w fun e w' => e = .returned (.bool true) ∧ Below w.heap.size w w' := by
  have HH := head_ret
  have HB0 : Hid (Boxed (w.alloc (.cells (MC m (.slice p n c)) 28)) w.heap.size m (.slice p n c)) := Lib.hid (heap_alloc_new w _)
  unfold MC at HB0
  unfold MV
  go_enter Try.func6, Try.ntmps6
  go_wp2_with (go_at_call 8; (with_reducible refine (HH.go _).mono ?_); rintro e w1 ⟨rfl, hb⟩; have c15 := (HB0.out.below hb).c15; have HB := Lib.hid (bTr (bAl (bRef w) _) hb); clear hb)
  go_ret
  exact ⟨rfl, HB.out⟩

theorem kinds_bad (m : Mg) (p : Option Addr) (n c x : Nat) (k : Int) (w : World) (h : ¬ 32 < n) (hx : (((x : Nat) : Int) != 0) = true) (HK : Hid (Aft w 12 #[.agg (MC m (.slice p n c))] (.int .i64 (x : Int)))) :
    Calls Try.prog 6 #[MV m (.slice p n c), .int .i64 k] w fun e w' => e = .returned (.bool true) ∧ Below w.heap.size w w' := by
  have HH := head_ret
  have HB0 : Hid (Boxed (w.alloc (.cells (MC m (.slice p n c)) 28)) w.heap.size m (.slice p n c)) := Lib.hid (heap_alloc_new w _)
  unfold MV
  have hd1 : decide ((32 : Int) < (n : Int)) = false := decide_eq_false (by omega)
  go_enter Try.func6, Try.ntmps6
  go_wp2_with (first
    | ((with_reducible refine at_loadM ?_); refine wpList_loadMG rfl _ rfl w.heap.size rfl (MC m (.slice p n c)) _ HX.out rfl ?_)
    | (go_at_call 8; (with_reducible refine (HH.go _).mono ?_); rintro e w1 ⟨rfl, hb⟩; have HX := Lib.hid (HB0.out.below hb); have c15 := HX.out.c15; have HB := Lib.hid (bTr (bAl (bRef w) _) hb); clear hb)
    | (go_at_call 12; (with_reducible refine (HK.out.go _ HB.out).mono ?_); rintro e w2 ⟨rfl, hb⟩; replace HB := Lib.hid (bTr HB.out hb); clear hb))
  go_ret
  exact ⟨rfl, HB.out⟩

theorem mc_one (m : Mg) (p : Option Addr) (n c : Nat) : (#[.int .i64 m.kind, .int .i64 m.dom, .int .i64 m.seq, .int .i64 m.src, .int .i64 m.port, .int .i64 m.corr, .int .i64 m.time, .int .i64 m.tw, .int .i64 m.tp, .int .i64 m.rate, .int .i64 m.one, .int .i64 m.cls, .int .i64 m.two, .int .i64 m.id, .int .i64 m.steps, .slice p n c] : Array Value).all (·.oneCell') = true := by simp [Value.oneCell']
def KRel (w : World) (m : Mg) (v : Value) (wx : World) : Prop := Boxed wx w.heap.size m v ∧ Below w.heap.size w wx

set_option maxRecDepth 100000 in
set_option maxHeartbeats 4000000 in
theorem kinds_ok (m : Mg) (p : Option Addr) (n c l x : Nat) (k : Int) (w : World) (h : n ≤ 32) (hl : l ≤ 300)
    (HK : Hid (Aft w 12 #[.agg (MC m (.slice p n c))] (.int .i64 0))) (HE : Hid (EncL w #[.agg (MC m (.slice p n c))] l))
    (HKD : Hid ((m.kind = 0 ∧ l = 20) ∨ (m.kind = 2 ∧ l = 20) ∨ (m.kind = 3 ∧ l = 36) ∨ (m.kind = 8 ∧ l = 36) ∨ (m.kind = 10 ∧ l = 36) ∨ (m.kind = 11 ∧ l = 31 + 6 * n)))
    (H0 : Hid (m.time ≠ 0 → Aft w 12 #[.agg #[.int .i64 0, .int .i64 m.dom, .int .i64 m.seq, .int .i64 m.src, .int .i64 m.port, .int .i64 m.corr, .int .i64 m.time, .int .i64 m.tw, .int .i64 m.tp, .int .i64 m.rate, .int .i64 m.one, .int .i64 m.cls, .int .i64 m.two, .int .i64 m.id, .int .i64 m.steps, .slice p n c]] (.int .i64 1)))
    (HN : Hid (EncE w #[.agg #[.int .i64 k, .int .i64 m.dom, .int .i64 m.seq, .int .i64 m.src, .int .i64 m.port, .int .i64 m.corr, .int .i64 m.time, .int .i64 m.tw, .int .i64 m.tp, .int .i64 m.rate, .int .i64 m.one, .int .i64 m.cls, .int .i64 m.two, .int .i64 m.id, .int .i64 m.steps, .slice p n c]] x))
    (HQ : Hid (((k ≠ 0 ∧ k ≠ 2 ∧ k ≠ 3 ∧ k ≠ 8 ∧ k ≠ 10 ∧ k ≠ 11) ∧ x = 23) ∨ ((k = 0 ∨ k = 2 ∨ k = 3 ∨ k = 8 ∨ k = 10 ∨ k = 11) ∧ x ≠ 23))) :
    Calls Try.prog 6 #[MV m (.slice p n c), .int .i64 k] w fun e w' => e = .returned (.bool true) ∧ Below w.heap.size w w' := by
  have HH := head_ret
  have HB0 : Hid (Boxed (w.alloc (.cells (MC m (.slice p n c)) 28)) w.heap.size m (.slice p n c)) := Lib.hid (heap_alloc_new w _)
  unfold MV
  have hd1 : decide ((32 : Int) < (n : Int)) = false := decide_eq_false (by omega)
  go_enter Try.func6, Try.ntmps6
  go_upto_block 0 with (first
    | ((with_reducible refine at_loadM ?_); refine wpList_loadMG rfl _ rfl w.heap.size rfl (MC m (.slice p n c)) _ HX.out rfl ?_)
    | (go_at_call 8; (with_reducible refine (HH.go _).mono ?_); rintro e w1 ⟨rfl, hb⟩; have HX := Lib.hid (HB0.out.below hb); have c15 := HX.out.c15; have HB := Lib.hid (bTr (bAl (bRef w) _) hb); clear hb)
    | (go_at_call 12; (with_reducible refine (HK.out.go _ HB.out).mono ?_); rintro e w2 ⟨rfl, hb⟩; replace HX := Lib.hid (HX.out.below hb); replace HB := Lib.hid (bTr HB.out hb); clear hb)
    | (go_at_call 9; (with_reducible refine (HE.out.go _ HB.out).mono ?_); rintro e w3 ⟨g3, c3, rfl, hb⟩; replace HX := Lib.hid (HX.out.below hb); replace HB := Lib.hid (bTr HB.out hb); clear hb; have c0 := HX.out.c0))
  go_cut [7] (fun v wx => v = .int .i64 (l : Int) ∧ KRel w m (.slice p n c) wx)
  case first =>
    clear c0
    have hk := HKD.out
    rcases hk with ⟨hk, rfl⟩ | ⟨hk, rfl⟩ | ⟨hk, rfl⟩ | ⟨hk, rfl⟩ | ⟨hk, rfl⟩ | ⟨hk, hlw⟩
    · have q3 : (m.kind == 3) = false := by simp [hk]
      have q10 : (m.kind == 10) = false := by simp [hk]
      have q8 : (m.kind == 8) = false := by simp [hk]
      have q11 : (m.kind == 11) = false := by simp [hk]
      clear hk
      go_wp2_with fail
      go_meet
      exact ⟨rfl, HX.out, HB.out⟩
    · have q3 : (m.kind == 3) = false := by simp [hk]
      have q10 : (m.kind == 10) = false := by simp [hk]
      have q8 : (m.kind == 8) = false := by simp [hk]
      have q11 : (m.kind == 11) = false := by simp [hk]
      clear hk
      go_wp2_with fail
      go_meet
      exact ⟨rfl, HX.out, HB.out⟩
    · have q3 : (m.kind == 3) = true := by simp [hk]
      have q10 : (m.kind == 10) = false := by simp [hk]
      have q8 : (m.kind == 8) = false := by simp [hk]
      have q11 : (m.kind == 11) = false := by simp [hk]
      clear hk
      go_wp2_with fail
      go_meet
      exact ⟨rfl, HX.out, HB.out⟩
    · have q3 : (m.kind == 3) = false := by simp [hk]
      have q10 : (m.kind == 10) = false := by simp [hk]
      have q8 : (m.kind == 8) = true := by simp [hk]
      have q11 : (m.kind == 11) = false := by simp [hk]
      clear hk
      go_wp2_with fail
      go_meet
      exact ⟨rfl, HX.out, HB.out⟩
    · have q3 : (m.kind == 3) = false := by simp [hk]
      have q10 : (m.kind == 10) = true := by simp [hk]
      have q8 : (m.kind == 8) = false := by simp [hk]
      have q11 : (m.kind == 11) = false := by simp [hk]
      clear hk
      go_wp2_with fail
      go_meet
      exact ⟨rfl, HX.out, HB.out⟩
    · have q3 : (m.kind == 3) = false := by simp [hk]
      have q10 : (m.kind == 10) = false := by simp [hk]
      have q8 : (m.kind == 8) = false := by simp [hk]
      have q11 : (m.kind == 11) = true := by simp [hk]
      have HL := Lib.hid (show (31 : Int) + 6 * (n : Int) = (l : Int) by omega)
      clear hk hlw c15
      have c15 := HX.out.c15
      go_wp2_with fail
      go_meet
      exact ⟨congrArg _ HL.out, HX.out, HB.out⟩
  case rest =>
    obtain ⟨rfl, hx2, hb2⟩ := hcut
    clear c15 c0
    replace HX := Lib.hid hx2
    replace HB := Lib.hid hb2
    clear hx2 hb2
    have c6 := HX.out.c6
    go_upto_if 51 with (fail)
    go_cut [8] (fun _ wx => KRel w m (.slice p n c) wx)
    case first =>
      by_cases ht : m.time = 0
      · have ht0 : (m.time != 0) = false := by simp [ht]
        clear ht
        go_wp2_with fail
        go_meet
        exact ⟨HX.out, HB.out⟩
      · have ht1 : (m.time != 0) = true := by simp [ht]
        have HC0 := Lib.hid (H0.out ht)
        clear ht
        go_wp2_with (first
          | ((with_reducible refine at_storeM ?_); refine wpList_storeNM rfl _ _ rfl _ rfl #[.int .i64 m.kind, .int .i64 m.dom, .int .i64 m.seq, .int .i64 m.src, .int .i64 m.port, .int .i64 m.corr, .int .i64 m.time, .int .i64 m.tw, .int .i64 m.tp, .int .i64 m.rate, .int .i64 m.one, .int .i64 m.cls, .int .i64 m.two, .int .i64 m.id, .int .i64 m.steps, .slice p n c] _ rfl rfl (mc_one m p n c) rfl rfl ?_)
          | ((with_reducible refine at_loadM ?_); refine wpList_loadM rfl _ rfl w.heap.size rfl (MC m (.slice p n c)) _ HX.out rfl ?_)
          | ((with_reducible refine at_loadM ?_); refine wpList_loadM rfl _ rfl _ rfl #[.int .i64 0, .int .i64 m.dom, .int .i64 m.seq, .int .i64 m.src, .int .i64 m.port, .int .i64 m.corr, .int .i64 m.time, .int .i64 m.tw, .int .i64 m.tp, .int .i64 m.rate, .int .i64 m.one, .int .i64 m.cls, .int .i64 m.two, .int .i64 m.id, .int .i64 m.steps, .slice p n c] _ (heap_alloc_new _ _) rfl ?_)
          | (go_at_call 12; (with_reducible refine (HC0.out.go _ (bTr HB.out (bAl (bRef _) _))).mono ?_); rintro e w4 ⟨rfl, hb⟩; replace HX := Lib.hid (HX.out.below (bTr (bAl (bRef _) _) hb)); replace HB := Lib.hid (bTr (bTr HB.out (bAl (bRef _) _)) hb); clear hb))
        go_meet
        exact ⟨HX.out, HB.out⟩
    case rest =>
      obtain ⟨hx2, hb2⟩ := hcut
      clear c6
      replace HX := Lib.hid hx2
      replace HB := Lib.hid hb2
      clear hx2 hb2
      go_upto_region 24 with (first
          | ((with_reducible refine at_storeM ?_); refine wpList_storeNM rfl _ _ rfl _ rfl #[.int .i64 m.kind, .int .i64 m.dom, .int .i64 m.seq, .int .i64 m.src, .int .i64 m.port, .int .i64 m.corr, .int .i64 m.time, .int .i64 m.tw, .int .i64 m.tp, .int .i64 m.rate, .int .i64 m.one, .int .i64 m.cls, .int .i64 m.two, .int .i64 m.id, .int .i64 m.steps, .slice p n c] _ rfl rfl (mc_one m p n c) rfl rfl ?_)
          | ((with_reducible refine at_loadM ?_); refine wpList_loadM rfl _ rfl w.heap.size rfl (MC m (.slice p n c)) _ HX.out rfl ?_)
          | ((with_reducible refine at_loadM ?_); refine wpList_loadM rfl _ rfl _ rfl #[.int .i64 k, .int .i64 m.dom, .int .i64 m.seq, .int .i64 m.src, .int .i64 m.port, .int .i64 m.corr, .int .i64 m.time, .int .i64 m.tw, .int .i64 m.tp, .int .i64 m.rate, .int .i64 m.one, .int .i64 m.cls, .int .i64 m.two, .int .i64 m.id, .int .i64 m.steps, .slice p n c] _ (heap_alloc_new _ _) rfl ?_)
          | (go_at_call 9; (with_reducible refine (HN.out.go _ (bTr HB.out (bAl (bRef _) _))).mono ?_); rintro e w4 ⟨v4, rfl, hb⟩; replace HB := Lib.hid (bTr (bTr HB.out (bAl (bRef _) _)) hb); clear hb))
      rcases HQ.out with ⟨hk, hx⟩ | ⟨hk, hx⟩
      · have hx23 : (((x : Nat) : Int) == 23) = true := by simp [hx]
        have q0 : (k != 0) = true := by simp; omega
        have q2 : (k != 2) = true := by simp; omega
        have q3 : (k != 3) = true := by simp; omega
        have q8 : (k != 8) = true := by simp; omega
        have q10 : (k != 10) = true := by simp; omega
        have q11 : (k != 11) = true := by simp; omega
        clear hk hx
        go_wp2_with fail
        go_ret
        exact ⟨rfl, HB.out⟩
      · have hx23 : (((x : Nat) : Int) == 23) = false := by simp; omega
        clear hx
        rcases hk with rfl | rfl | rfl | rfl | rfl | rfl
        all_goals
          go_wp2_with fail
          go_ret
          exact ⟨rfl, HB.out⟩

end Go.Proofs.Ytcdcklkbjfhhnaa
