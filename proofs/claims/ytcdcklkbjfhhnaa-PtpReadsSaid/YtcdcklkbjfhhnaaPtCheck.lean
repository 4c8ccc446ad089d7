/- Package ptp: Check. -/
import Derived.Test.YtcdcklkbjfhhnaaPtBeside
namespace Go.Proofs.Ytcdcklkbjfhhnaa
open Go.RowKit Go.Joins

theorem within_row {most : Int} {ys : List Int} {cs : Array Value} {x : Bool} (hx : winB most ys = x) (h : cs = (ys.map (Value.int .i64)).toArray) (hy : ∀ y ∈ ys, In64 y) (n : Nat) (hn : n = ys.length) (hl : n ≤ 100) :
    ∀ (wx : World) (g : Nat), g = wx.heap.size → Calls Try.prog 23 #[.int .i64 most, .slice (some ⟨g, 0, none⟩) n n] (wx.alloc (.cells cs 3)) fun e w1 => e = .returned (.bool x) ∧ wx.alloc (.cells cs 3) = w1 := fun wx g hg => by
  subst hg hn
  exact within_any ((IRow.new wx ys cs h).arg hy (Nat.le_refl _)) (by omega) x hx

set_option maxHeartbeats 1000000 in
theorem chk_kind (kind dom seq src port corr time tw tp rate one cls two id steps : Int) (p : Option Addr) (n c : Nat) (w : World) (HK : Hid (RetQ 22 #[.int .i64 kind] (.bool false))) :
    Calls Try.prog 12 #[.agg #[.int .i64 kind, .int .i64 dom, .int .i64 seq, .int .i64 src, .int .i64 port, .int .i64 corr, .int .i64 time, .int .i64 tw, .int .i64 tp, .int .i64 rate, .int .i64 one, .int .i64 cls, .int .i64 two, .int .i64 id, .int .i64 steps, .slice p n c]] w fun e w' => e = .returned (.int .i64 23) ∧ Below w.heap.size w w' := by
  go_enter Try.func12, Try.ntmps12
  go_wp2_with (first
    | (go_at_call 22; (with_reducible refine (HK.out.go _).mono ?_); rintro e w1 ⟨rfl, rfl⟩))
  go_ret
  exact ⟨rfl, (bAl (bRef w) _)⟩

set_option maxHeartbeats 1000000 in
theorem chk_w0 (kind dom seq src port corr time tw tp rate one cls two id steps : Int) (p : Option Addr) (n c : Nat) (w : World) (HK : Hid (RetQ 22 #[.int .i64 kind] (.bool true)))
    (H0 : Hid (∀ (wx : World) (g : Nat), g = wx.heap.size → Calls Try.prog 23 #[.int .i64 127, .slice (some ⟨g, 0, none⟩) 1 1] (wx.alloc (.cells #[.int .i64 dom] 3)) fun e w1 => e = .returned (.bool false) ∧ wx.alloc (.cells #[.int .i64 dom] 3) = w1)) :
    Calls Try.prog 12 #[.agg #[.int .i64 kind, .int .i64 dom, .int .i64 seq, .int .i64 src, .int .i64 port, .int .i64 corr, .int .i64 time, .int .i64 tw, .int .i64 tp, .int .i64 rate, .int .i64 one, .int .i64 cls, .int .i64 two, .int .i64 id, .int .i64 steps, .slice p n c]] w fun e w' => e = .returned (.int .i64 1) ∧ Below w.heap.size w w' := by
  go_enter Try.func12, Try.ntmps12
  go_wp2_with (first
    | (go_at_call 22; (with_reducible refine (HK.out.go _).mono ?_); rintro e w1 ⟨rfl, rfl⟩)
    | (go_at_call 23; (with_reducible refine (H0.out _ _ (by simp)).mono ?_); rintro e w1 ⟨rfl, rfl⟩))
  go_ret
  exact ⟨rfl, (bAl (bAl (bRef w) _) _)⟩

set_option maxHeartbeats 1000000 in
theorem chk_w1 (kind dom seq src port corr time tw tp rate one cls two id steps : Int) (p : Option Addr) (n c : Nat) (w : World) (HK : Hid (RetQ 22 #[.int .i64 kind] (.bool true)))
    (H0 : Hid (∀ (wx : World) (g : Nat), g = wx.heap.size → Calls Try.prog 23 #[.int .i64 127, .slice (some ⟨g, 0, none⟩) 1 1] (wx.alloc (.cells #[.int .i64 dom] 3)) fun e w1 => e = .returned (.bool true) ∧ wx.alloc (.cells #[.int .i64 dom] 3) = w1))
    (H1 : Hid (∀ (wx : World) (g : Nat), g = wx.heap.size → Calls Try.prog 23 #[.int .i64 65535, .slice (some ⟨g, 0, none⟩) 3 3] (wx.alloc (.cells #[.int .i64 seq, .int .i64 port, .int .i64 tp] 3)) fun e w1 => e = .returned (.bool false) ∧ wx.alloc (.cells #[.int .i64 seq, .int .i64 port, .int .i64 tp] 3) = w1)) :
    Calls Try.prog 12 #[.agg #[.int .i64 kind, .int .i64 dom, .int .i64 seq, .int .i64 src, .int .i64 port, .int .i64 corr, .int .i64 time, .int .i64 tw, .int .i64 tp, .int .i64 rate, .int .i64 one, .int .i64 cls, .int .i64 two, .int .i64 id, .int .i64 steps, .slice p n c]] w fun e w' => e = .returned (.int .i64 1) ∧ Below w.heap.size w w' := by
  go_enter Try.func12, Try.ntmps12
  go_wp2_with (first
    | (go_at_call 22; (with_reducible refine (HK.out.go _).mono ?_); rintro e w1 ⟨rfl, rfl⟩)
    | (go_at_call 23; (with_reducible refine (H0.out _ _ (by simp)).mono ?_); rintro e w1 ⟨rfl, rfl⟩)
    | (go_at_call 23; (with_reducible refine (H1.out _ _ (by simp)).mono ?_); rintro e w1 ⟨rfl, rfl⟩))
  go_ret
  exact ⟨rfl, (bAl (bAl (bAl (bRef w) _) _) _)⟩

set_option maxHeartbeats 1000000 in
theorem chk_w2 (kind dom seq src port corr time tw tp rate one cls two id steps : Int) (p : Option Addr) (n c : Nat) (w : World) (HK : Hid (RetQ 22 #[.int .i64 kind] (.bool true)))
    (H0 : Hid (∀ (wx : World) (g : Nat), g = wx.heap.size → Calls Try.prog 23 #[.int .i64 127, .slice (some ⟨g, 0, none⟩) 1 1] (wx.alloc (.cells #[.int .i64 dom] 3)) fun e w1 => e = .returned (.bool true) ∧ wx.alloc (.cells #[.int .i64 dom] 3) = w1))
    (H1 : Hid (∀ (wx : World) (g : Nat), g = wx.heap.size → Calls Try.prog 23 #[.int .i64 65535, .slice (some ⟨g, 0, none⟩) 3 3] (wx.alloc (.cells #[.int .i64 seq, .int .i64 port, .int .i64 tp] 3)) fun e w1 => e = .returned (.bool true) ∧ wx.alloc (.cells #[.int .i64 seq, .int .i64 port, .int .i64 tp] 3) = w1))
    (H2 : Hid (∀ (wx : World) (g : Nat), g = wx.heap.size → Calls Try.prog 23 #[.int .i64 281474976710655, .slice (some ⟨g, 0, none⟩) 3 3] (wx.alloc (.cells #[.int .i64 src, .int .i64 tw, .int .i64 id] 3)) fun e w1 => e = .returned (.bool false) ∧ wx.alloc (.cells #[.int .i64 src, .int .i64 tw, .int .i64 id] 3) = w1)) :
    Calls Try.prog 12 #[.agg #[.int .i64 kind, .int .i64 dom, .int .i64 seq, .int .i64 src, .int .i64 port, .int .i64 corr, .int .i64 time, .int .i64 tw, .int .i64 tp, .int .i64 rate, .int .i64 one, .int .i64 cls, .int .i64 two, .int .i64 id, .int .i64 steps, .slice p n c]] w fun e w' => e = .returned (.int .i64 1) ∧ Below w.heap.size w w' := by
  go_enter Try.func12, Try.ntmps12
  go_wp2_with (first
    | (go_at_call 22; (with_reducible refine (HK.out.go _).mono ?_); rintro e w1 ⟨rfl, rfl⟩)
    | (go_at_call 23; (with_reducible refine (H0.out _ _ (by simp)).mono ?_); rintro e w1 ⟨rfl, rfl⟩)
    | (go_at_call 23; (with_reducible refine (H1.out _ _ (by simp)).mono ?_); rintro e w1 ⟨rfl, rfl⟩)
    | (go_at_call 23; (with_reducible refine (H2.out _ _ (by simp)).mono ?_); rintro e w1 ⟨rfl, rfl⟩))
  go_ret
  exact ⟨rfl, (bAl (bAl (bAl (bAl (bRef w) _) _) _) _)⟩

set_option maxHeartbeats 1000000 in
theorem chk_w3 (kind dom seq src port corr time tw tp rate one cls two id steps : Int) (p : Option Addr) (n c : Nat) (w : World) (HK : Hid (RetQ 22 #[.int .i64 kind] (.bool true)))
    (H0 : Hid (∀ (wx : World) (g : Nat), g = wx.heap.size → Calls Try.prog 23 #[.int .i64 127, .slice (some ⟨g, 0, none⟩) 1 1] (wx.alloc (.cells #[.int .i64 dom] 3)) fun e w1 => e = .returned (.bool true) ∧ wx.alloc (.cells #[.int .i64 dom] 3) = w1))
    (H1 : Hid (∀ (wx : World) (g : Nat), g = wx.heap.size → Calls Try.prog 23 #[.int .i64 65535, .slice (some ⟨g, 0, none⟩) 3 3] (wx.alloc (.cells #[.int .i64 seq, .int .i64 port, .int .i64 tp] 3)) fun e w1 => e = .returned (.bool true) ∧ wx.alloc (.cells #[.int .i64 seq, .int .i64 port, .int .i64 tp] 3) = w1))
    (H2 : Hid (∀ (wx : World) (g : Nat), g = wx.heap.size → Calls Try.prog 23 #[.int .i64 281474976710655, .slice (some ⟨g, 0, none⟩) 3 3] (wx.alloc (.cells #[.int .i64 src, .int .i64 tw, .int .i64 id] 3)) fun e w1 => e = .returned (.bool true) ∧ wx.alloc (.cells #[.int .i64 src, .int .i64 tw, .int .i64 id] 3) = w1))
    (H3 : Hid (∀ (wx : World) (g : Nat), g = wx.heap.size → Calls Try.prog 23 #[.int .i64 255, .slice (some ⟨g, 0, none⟩) 4 4] (wx.alloc (.cells #[.int .i64 one, .int .i64 cls, .int .i64 two, .int .i64 steps] 3)) fun e w1 => e = .returned (.bool false) ∧ wx.alloc (.cells #[.int .i64 one, .int .i64 cls, .int .i64 two, .int .i64 steps] 3) = w1)) :
    Calls Try.prog 12 #[.agg #[.int .i64 kind, .int .i64 dom, .int .i64 seq, .int .i64 src, .int .i64 port, .int .i64 corr, .int .i64 time, .int .i64 tw, .int .i64 tp, .int .i64 rate, .int .i64 one, .int .i64 cls, .int .i64 two, .int .i64 id, .int .i64 steps, .slice p n c]] w fun e w' => e = .returned (.int .i64 1) ∧ Below w.heap.size w w' := by
  go_enter Try.func12, Try.ntmps12
  go_wp2_with (first
    | (go_at_call 22; (with_reducible refine (HK.out.go _).mono ?_); rintro e w1 ⟨rfl, rfl⟩)
    | (go_at_call 23; (with_reducible refine (H0.out _ _ (by simp)).mono ?_); rintro e w1 ⟨rfl, rfl⟩)
    | (go_at_call 23; (with_reducible refine (H1.out _ _ (by simp)).mono ?_); rintro e w1 ⟨rfl, rfl⟩)
    | (go_at_call 23; (with_reducible refine (H2.out _ _ (by simp)).mono ?_); rintro e w1 ⟨rfl, rfl⟩)
    | (go_at_call 23; (with_reducible refine (H3.out _ _ (by simp)).mono ?_); rintro e w1 ⟨rfl, rfl⟩))
  go_ret
  exact ⟨rfl, (bAl (bAl (bAl (bAl (bAl (bRef w) _) _) _) _) _)⟩

set_option maxHeartbeats 1000000 in
theorem chk_bes (kind dom seq src port corr time tw tp rate one cls two id steps : Int) (p : Option Addr) (n c : Nat) (w : World) (HK : Hid (RetQ 22 #[.int .i64 kind] (.bool true)))
    (H0 : Hid (∀ (wx : World) (g : Nat), g = wx.heap.size → Calls Try.prog 23 #[.int .i64 127, .slice (some ⟨g, 0, none⟩) 1 1] (wx.alloc (.cells #[.int .i64 dom] 3)) fun e w1 => e = .returned (.bool true) ∧ wx.alloc (.cells #[.int .i64 dom] 3) = w1))
    (H1 : Hid (∀ (wx : World) (g : Nat), g = wx.heap.size → Calls Try.prog 23 #[.int .i64 65535, .slice (some ⟨g, 0, none⟩) 3 3] (wx.alloc (.cells #[.int .i64 seq, .int .i64 port, .int .i64 tp] 3)) fun e w1 => e = .returned (.bool true) ∧ wx.alloc (.cells #[.int .i64 seq, .int .i64 port, .int .i64 tp] 3) = w1))
    (H2 : Hid (∀ (wx : World) (g : Nat), g = wx.heap.size → Calls Try.prog 23 #[.int .i64 281474976710655, .slice (some ⟨g, 0, none⟩) 3 3] (wx.alloc (.cells #[.int .i64 src, .int .i64 tw, .int .i64 id] 3)) fun e w1 => e = .returned (.bool true) ∧ wx.alloc (.cells #[.int .i64 src, .int .i64 tw, .int .i64 id] 3) = w1))
    (H3 : Hid (∀ (wx : World) (g : Nat), g = wx.heap.size → Calls Try.prog 23 #[.int .i64 255, .slice (some ⟨g, 0, none⟩) 4 4] (wx.alloc (.cells #[.int .i64 one, .int .i64 cls, .int .i64 two, .int .i64 steps] 3)) fun e w1 => e = .returned (.bool true) ∧ wx.alloc (.cells #[.int .i64 one, .int .i64 cls, .int .i64 two, .int .i64 steps] 3) = w1))
    (HB : Hid (Ret 24 #[.agg #[.int .i64 kind, .int .i64 dom, .int .i64 seq, .int .i64 src, .int .i64 port, .int .i64 corr, .int .i64 time, .int .i64 tw, .int .i64 tp, .int .i64 rate, .int .i64 one, .int .i64 cls, .int .i64 two, .int .i64 id, .int .i64 steps, .slice p n c]] (.bool true))) :
    Calls Try.prog 12 #[.agg #[.int .i64 kind, .int .i64 dom, .int .i64 seq, .int .i64 src, .int .i64 port, .int .i64 corr, .int .i64 time, .int .i64 tw, .int .i64 tp, .int .i64 rate, .int .i64 one, .int .i64 cls, .int .i64 two, .int .i64 id, .int .i64 steps, .slice p n c]] w fun e w' => e = .returned (.int .i64 1) ∧ Below w.heap.size w w' := by
  have HX : Hid (Boxed (w.alloc (.cells #[.int .i64 kind, .int .i64 dom, .int .i64 seq, .int .i64 src, .int .i64 port, .int .i64 corr, .int .i64 time, .int .i64 tw, .int .i64 tp, .int .i64 rate, .int .i64 one, .int .i64 cls, .int .i64 two, .int .i64 id, .int .i64 steps, .slice p n c] 28)) w.heap.size ⟨kind, dom, seq, src, port, corr, time, tw, tp, rate, one, cls, two, id, steps, []⟩ (.slice p n c)) := Lib.hid (heap_alloc_new w _)
  go_enter Try.func12, Try.ntmps12
  go_wp2_with (first
    | (go_at_call 22; (with_reducible refine (HK.out.go _).mono ?_); rintro e w1 ⟨rfl, rfl⟩)
    | (go_at_call 23; (with_reducible refine (H0.out _ _ (by simp)).mono ?_); rintro e w1 ⟨rfl, rfl⟩)
    | (go_at_call 23; (with_reducible refine (H1.out _ _ (by simp)).mono ?_); rintro e w1 ⟨rfl, rfl⟩)
    | (go_at_call 23; (with_reducible refine (H2.out _ _ (by simp)).mono ?_); rintro e w1 ⟨rfl, rfl⟩)
    | (go_at_call 23; (with_reducible refine (H3.out _ _ (by simp)).mono ?_); rintro e w1 ⟨rfl, rfl⟩)
    | ((with_reducible refine at_loadM ?_); refine wpList_loadM rfl _ rfl w.heap.size rfl #[.int .i64 kind, .int .i64 dom, .int .i64 seq, .int .i64 src, .int .i64 port, .int .i64 corr, .int .i64 time, .int .i64 tw, .int .i64 tp, .int .i64 rate, .int .i64 one, .int .i64 cls, .int .i64 two, .int .i64 id, .int .i64 steps, .slice p n c] _ (Boxed.below HX.out (bAl (bAl (bAl (bAl (bRef _) _) _) _) _)) rfl ?_)
    | (go_at_call 24; (with_reducible refine (HB.out.go _).mono ?_); rintro e w1 ⟨rfl, hb⟩; have HW := Lib.hid (bTr (bAl (bAl (bAl (bAl (bAl (bRef w) _) _) _) _) _) hb); have HY := Lib.hid (Boxed.below HX.out (bTr (bAl (bAl (bAl (bAl (bRef _) _) _) _) _) hb)); clear hb; have k15 := HY.out.c15))
  go_ret
  exact ⟨rfl, HW.out⟩

set_option maxHeartbeats 1000000 in
theorem chk_many (kind dom seq src port corr time tw tp rate one cls two id steps : Int) (p : Option Addr) (n c : Nat) (w : World) (HK : Hid (RetQ 22 #[.int .i64 kind] (.bool true)))
    (H0 : Hid (∀ (wx : World) (g : Nat), g = wx.heap.size → Calls Try.prog 23 #[.int .i64 127, .slice (some ⟨g, 0, none⟩) 1 1] (wx.alloc (.cells #[.int .i64 dom] 3)) fun e w1 => e = .returned (.bool true) ∧ wx.alloc (.cells #[.int .i64 dom] 3) = w1))
    (H1 : Hid (∀ (wx : World) (g : Nat), g = wx.heap.size → Calls Try.prog 23 #[.int .i64 65535, .slice (some ⟨g, 0, none⟩) 3 3] (wx.alloc (.cells #[.int .i64 seq, .int .i64 port, .int .i64 tp] 3)) fun e w1 => e = .returned (.bool true) ∧ wx.alloc (.cells #[.int .i64 seq, .int .i64 port, .int .i64 tp] 3) = w1))
    (H2 : Hid (∀ (wx : World) (g : Nat), g = wx.heap.size → Calls Try.prog 23 #[.int .i64 281474976710655, .slice (some ⟨g, 0, none⟩) 3 3] (wx.alloc (.cells #[.int .i64 src, .int .i64 tw, .int .i64 id] 3)) fun e w1 => e = .returned (.bool true) ∧ wx.alloc (.cells #[.int .i64 src, .int .i64 tw, .int .i64 id] 3) = w1))
    (H3 : Hid (∀ (wx : World) (g : Nat), g = wx.heap.size → Calls Try.prog 23 #[.int .i64 255, .slice (some ⟨g, 0, none⟩) 4 4] (wx.alloc (.cells #[.int .i64 one, .int .i64 cls, .int .i64 two, .int .i64 steps] 3)) fun e w1 => e = .returned (.bool true) ∧ wx.alloc (.cells #[.int .i64 one, .int .i64 cls, .int .i64 two, .int .i64 steps] 3) = w1))
    (HB : Hid (Ret 24 #[.agg #[.int .i64 kind, .int .i64 dom, .int .i64 seq, .int .i64 src, .int .i64 port, .int .i64 corr, .int .i64 time, .int .i64 tw, .int .i64 tp, .int .i64 rate, .int .i64 one, .int .i64 cls, .int .i64 two, .int .i64 id, .int .i64 steps, .slice p n c]] (.bool false)))
    (hn : 32 < n) :
    Calls Try.prog 12 #[.agg #[.int .i64 kind, .int .i64 dom, .int .i64 seq, .int .i64 src, .int .i64 port, .int .i64 corr, .int .i64 time, .int .i64 tw, .int .i64 tp, .int .i64 rate, .int .i64 one, .int .i64 cls, .int .i64 two, .int .i64 id, .int .i64 steps, .slice p n c]] w fun e w' => e = .returned (.int .i64 4) ∧ Below w.heap.size w w' := by
  have HX : Hid (Boxed (w.alloc (.cells #[.int .i64 kind, .int .i64 dom, .int .i64 seq, .int .i64 src, .int .i64 port, .int .i64 corr, .int .i64 time, .int .i64 tw, .int .i64 tp, .int .i64 rate, .int .i64 one, .int .i64 cls, .int .i64 two, .int .i64 id, .int .i64 steps, .slice p n c] 28)) w.heap.size ⟨kind, dom, seq, src, port, corr, time, tw, tp, rate, one, cls, two, id, steps, []⟩ (.slice p n c)) := Lib.hid (heap_alloc_new w _)
  go_enter Try.func12, Try.ntmps12
  go_wp2_with (first
    | (go_at_call 22; (with_reducible refine (HK.out.go _).mono ?_); rintro e w1 ⟨rfl, rfl⟩)
    | (go_at_call 23; (with_reducible refine (H0.out _ _ (by simp)).mono ?_); rintro e w1 ⟨rfl, rfl⟩)
    | (go_at_call 23; (with_reducible refine (H1.out _ _ (by simp)).mono ?_); rintro e w1 ⟨rfl, rfl⟩)
    | (go_at_call 23; (with_reducible refine (H2.out _ _ (by simp)).mono ?_); rintro e w1 ⟨rfl, rfl⟩)
    | (go_at_call 23; (with_reducible refine (H3.out _ _ (by simp)).mono ?_); rintro e w1 ⟨rfl, rfl⟩)
    | ((with_reducible refine at_loadM ?_); refine wpList_loadM rfl _ rfl w.heap.size rfl #[.int .i64 kind, .int .i64 dom, .int .i64 seq, .int .i64 src, .int .i64 port, .int .i64 corr, .int .i64 time, .int .i64 tw, .int .i64 tp, .int .i64 rate, .int .i64 one, .int .i64 cls, .int .i64 two, .int .i64 id, .int .i64 steps, .slice p n c] _ (Boxed.below HX.out (bAl (bAl (bAl (bAl (bRef _) _) _) _) _)) rfl ?_)
    | (go_at_call 24; (with_reducible refine (HB.out.go _).mono ?_); rintro e w1 ⟨rfl, hb⟩; have HW := Lib.hid (bTr (bAl (bAl (bAl (bAl (bAl (bRef w) _) _) _) _) _) hb); have HY := Lib.hid (Boxed.below HX.out (bTr (bAl (bAl (bAl (bAl (bRef _) _) _) _) _) hb)); clear hb; have k15 := HY.out.c15))
  go_ret
  exact ⟨rfl, HW.out⟩

set_option maxHeartbeats 1000000 in
theorem chk_path (kind dom seq src port corr time tw tp rate one cls two id steps : Int) (p : Option Addr) (n c : Nat) (w : World) (HK : Hid (RetQ 22 #[.int .i64 kind] (.bool true)))
    (H0 : Hid (∀ (wx : World) (g : Nat), g = wx.heap.size → Calls Try.prog 23 #[.int .i64 127, .slice (some ⟨g, 0, none⟩) 1 1] (wx.alloc (.cells #[.int .i64 dom] 3)) fun e w1 => e = .returned (.bool true) ∧ wx.alloc (.cells #[.int .i64 dom] 3) = w1))
    (H1 : Hid (∀ (wx : World) (g : Nat), g = wx.heap.size → Calls Try.prog 23 #[.int .i64 65535, .slice (some ⟨g, 0, none⟩) 3 3] (wx.alloc (.cells #[.int .i64 seq, .int .i64 port, .int .i64 tp] 3)) fun e w1 => e = .returned (.bool true) ∧ wx.alloc (.cells #[.int .i64 seq, .int .i64 port, .int .i64 tp] 3) = w1))
    (H2 : Hid (∀ (wx : World) (g : Nat), g = wx.heap.size → Calls Try.prog 23 #[.int .i64 281474976710655, .slice (some ⟨g, 0, none⟩) 3 3] (wx.alloc (.cells #[.int .i64 src, .int .i64 tw, .int .i64 id] 3)) fun e w1 => e = .returned (.bool true) ∧ wx.alloc (.cells #[.int .i64 src, .int .i64 tw, .int .i64 id] 3) = w1))
    (H3 : Hid (∀ (wx : World) (g : Nat), g = wx.heap.size → Calls Try.prog 23 #[.int .i64 255, .slice (some ⟨g, 0, none⟩) 4 4] (wx.alloc (.cells #[.int .i64 one, .int .i64 cls, .int .i64 two, .int .i64 steps] 3)) fun e w1 => e = .returned (.bool true) ∧ wx.alloc (.cells #[.int .i64 one, .int .i64 cls, .int .i64 two, .int .i64 steps] 3) = w1))
    (HB : Hid (Ret 24 #[.agg #[.int .i64 kind, .int .i64 dom, .int .i64 seq, .int .i64 src, .int .i64 port, .int .i64 corr, .int .i64 time, .int .i64 tw, .int .i64 tp, .int .i64 rate, .int .i64 one, .int .i64 cls, .int .i64 two, .int .i64 id, .int .i64 steps, .slice p n c]] (.bool false)))
    (hn : ¬ 32 < n)
    (HP : Hid (∀ wx, Below w.heap.size w wx → Calls Try.prog 23 #[.int .i64 281474976710655, .slice p n c] wx fun e w1 => e = .returned (.bool false) ∧ wx = w1)) :
    Calls Try.prog 12 #[.agg #[.int .i64 kind, .int .i64 dom, .int .i64 seq, .int .i64 src, .int .i64 port, .int .i64 corr, .int .i64 time, .int .i64 tw, .int .i64 tp, .int .i64 rate, .int .i64 one, .int .i64 cls, .int .i64 two, .int .i64 id, .int .i64 steps, .slice p n c]] w fun e w' => e = .returned (.int .i64 1) ∧ Below w.heap.size w w' := by
  have HX : Hid (Boxed (w.alloc (.cells #[.int .i64 kind, .int .i64 dom, .int .i64 seq, .int .i64 src, .int .i64 port, .int .i64 corr, .int .i64 time, .int .i64 tw, .int .i64 tp, .int .i64 rate, .int .i64 one, .int .i64 cls, .int .i64 two, .int .i64 id, .int .i64 steps, .slice p n c] 28)) w.heap.size ⟨kind, dom, seq, src, port, corr, time, tw, tp, rate, one, cls, two, id, steps, []⟩ (.slice p n c)) := Lib.hid (heap_alloc_new w _)
  go_enter Try.func12, Try.ntmps12
  go_wp2_with (first
    | (go_at_call 22; (with_reducible refine (HK.out.go _).mono ?_); rintro e w1 ⟨rfl, rfl⟩)
    | (go_at_call 23; (with_reducible refine (H0.out _ _ (by simp)).mono ?_); rintro e w1 ⟨rfl, rfl⟩)
    | (go_at_call 23; (with_reducible refine (H1.out _ _ (by simp)).mono ?_); rintro e w1 ⟨rfl, rfl⟩)
    | (go_at_call 23; (with_reducible refine (H2.out _ _ (by simp)).mono ?_); rintro e w1 ⟨rfl, rfl⟩)
    | (go_at_call 23; (with_reducible refine (H3.out _ _ (by simp)).mono ?_); rintro e w1 ⟨rfl, rfl⟩)
    | ((with_reducible refine at_loadM ?_); refine wpList_loadM rfl _ rfl w.heap.size rfl #[.int .i64 kind, .int .i64 dom, .int .i64 seq, .int .i64 src, .int .i64 port, .int .i64 corr, .int .i64 time, .int .i64 tw, .int .i64 tp, .int .i64 rate, .int .i64 one, .int .i64 cls, .int .i64 two, .int .i64 id, .int .i64 steps, .slice p n c] _ (Boxed.below HX.out (bAl (bAl (bAl (bAl (bRef _) _) _) _) _)) rfl ?_)
    | (go_at_call 24; (with_reducible refine (HB.out.go _).mono ?_); rintro e w1 ⟨rfl, hb⟩; have HW := Lib.hid (bTr (bAl (bAl (bAl (bAl (bAl (bRef w) _) _) _) _) _) hb); have HY := Lib.hid (Boxed.below HX.out (bTr (bAl (bAl (bAl (bAl (bRef _) _) _) _) _) hb)); clear hb; have k15 := HY.out.c15)
    | (go_at_call 23; (with_reducible refine (HP.out _ HW.out).mono ?_); rintro e w2 ⟨rfl, rfl⟩))
  go_ret
  exact ⟨rfl, HW.out⟩

set_option maxHeartbeats 1000000 in
theorem chk_ok (kind dom seq src port corr time tw tp rate one cls two id steps : Int) (p : Option Addr) (n c : Nat) (w : World) (HK : Hid (RetQ 22 #[.int .i64 kind] (.bool true)))
    (H0 : Hid (∀ (wx : World) (g : Nat), g = wx.heap.size → Calls Try.prog 23 #[.int .i64 127, .slice (some ⟨g, 0, none⟩) 1 1] (wx.alloc (.cells #[.int .i64 dom] 3)) fun e w1 => e = .returned (.bool true) ∧ wx.alloc (.cells #[.int .i64 dom] 3) = w1))
    (H1 : Hid (∀ (wx : World) (g : Nat), g = wx.heap.size → Calls Try.prog 23 #[.int .i64 65535, .slice (some ⟨g, 0, none⟩) 3 3] (wx.alloc (.cells #[.int .i64 seq, .int .i64 port, .int .i64 tp] 3)) fun e w1 => e = .returned (.bool true) ∧ wx.alloc (.cells #[.int .i64 seq, .int .i64 port, .int .i64 tp] 3) = w1))
    (H2 : Hid (∀ (wx : World) (g : Nat), g = wx.heap.size → Calls Try.prog 23 #[.int .i64 281474976710655, .slice (some ⟨g, 0, none⟩) 3 3] (wx.alloc (.cells #[.int .i64 src, .int .i64 tw, .int .i64 id] 3)) fun e w1 => e = .returned (.bool true) ∧ wx.alloc (.cells #[.int .i64 src, .int .i64 tw, .int .i64 id] 3) = w1))
    (H3 : Hid (∀ (wx : World) (g : Nat), g = wx.heap.size → Calls Try.prog 23 #[.int .i64 255, .slice (some ⟨g, 0, none⟩) 4 4] (wx.alloc (.cells #[.int .i64 one, .int .i64 cls, .int .i64 two, .int .i64 steps] 3)) fun e w1 => e = .returned (.bool true) ∧ wx.alloc (.cells #[.int .i64 one, .int .i64 cls, .int .i64 two, .int .i64 steps] 3) = w1))
    (HB : Hid (Ret 24 #[.agg #[.int .i64 kind, .int .i64 dom, .int .i64 seq, .int .i64 src, .int .i64 port, .int .i64 corr, .int .i64 time, .int .i64 tw, .int .i64 tp, .int .i64 rate, .int .i64 one, .int .i64 cls, .int .i64 two, .int .i64 id, .int .i64 steps, .slice p n c]] (.bool false)))
    (hn : ¬ 32 < n)
    (HP : Hid (∀ wx, Below w.heap.size w wx → Calls Try.prog 23 #[.int .i64 281474976710655, .slice p n c] wx fun e w1 => e = .returned (.bool true) ∧ wx = w1)) :
    Calls Try.prog 12 #[.agg #[.int .i64 kind, .int .i64 dom, .int .i64 seq, .int .i64 src, .int .i64 port, .int .i64 corr, .int .i64 time, .int .i64 tw, .int .i64 tp, .int .i64 rate, .int .i64 one, .int .i64 cls, .int .i64 two, .int .i64 id, .int .i64 steps, .slice p n c]] w fun e w' => e = .returned (.int .i64 0) ∧ Below w.heap.size w w' := by
  have HX : Hid (Boxed (w.alloc (.cells #[.int .i64 kind, .int .i64 dom, .int .i64 seq, .int .i64 src, .int .i64 port, .int .i64 corr, .int .i64 time, .int .i64 tw, .int .i64 tp, .int .i64 rate, .int .i64 one, .int .i64 cls, .int .i64 two, .int .i64 id, .int .i64 steps, .slice p n c] 28)) w.heap.size ⟨kind, dom, seq, src, port, corr, time, tw, tp, rate, one, cls, two, id, steps, []⟩ (.slice p n c)) := Lib.hid (heap_alloc_new w _)
  go_enter Try.func12, Try.ntmps12
  go_wp2_with (first
    | (go_at_call 22; (with_reducible refine (HK.out.go _).mono ?_); rintro e w1 ⟨rfl, rfl⟩)
    | (go_at_call 23; (with_reducible refine (H0.out _ _ (by simp)).mono ?_); rintro e w1 ⟨rfl, rfl⟩)
    | (go_at_call 23; (with_reducible refine (H1.out _ _ (by simp)).mono ?_); rintro e w1 ⟨rfl, rfl⟩)
    | (go_at_call 23; (with_reducible refine (H2.out _ _ (by simp)).mono ?_); rintro e w1 ⟨rfl, rfl⟩)
    | (go_at_call 23; (with_reducible refine (H3.out _ _ (by simp)).mono ?_); rintro e w1 ⟨rfl, rfl⟩)
    | ((with_reducible refine at_loadM ?_); refine wpList_loadM rfl _ rfl w.heap.size rfl #[.int .i64 kind, .int .i64 dom, .int .i64 seq, .int .i64 src, .int .i64 port, .int .i64 corr, .int .i64 time, .int .i64 tw, .int .i64 tp, .int .i64 rate, .int .i64 one, .int .i64 cls, .int .i64 two, .int .i64 id, .int .i64 steps, .slice p n c] _ (Boxed.below HX.out (bAl (bAl (bAl (bAl (bRef _) _) _) _) _)) rfl ?_)
    | (go_at_call 24; (with_reducible refine (HB.out.go _).mono ?_); rintro e w1 ⟨rfl, hb⟩; have HW := Lib.hid (bTr (bAl (bAl (bAl (bAl (bAl (bRef w) _) _) _) _) _) hb); have HY := Lib.hid (Boxed.below HX.out (bTr (bAl (bAl (bAl (bAl (bRef _) _) _) _) _) hb)); clear hb; have k15 := HY.out.c15)
    | (go_at_call 23; (with_reducible refine (HP.out _ HW.out).mono ?_); rintro e w2 ⟨rfl, rfl⟩))
  go_ret
  exact ⟨rfl, HW.out⟩

end Go.Proofs.Ytcdcklkbjfhhnaa
