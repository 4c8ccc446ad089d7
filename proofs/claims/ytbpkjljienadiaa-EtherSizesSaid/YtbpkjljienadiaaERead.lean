/- Package ether: the frame that a text tells of. -/
import Derived.Test.YtbpkjljienadiaaESub
namespace Go.Proofs.Ytbpkjljienadiaa
open Go.RowKit Go.Joins

/-- Six bytes copied into a frame that is the call's newest block. -/
theorem copy_top (w : World) (A B : Obj) (cur : Array Value) (n g off o dc c : Nat) (bs : List Nat) (hbs : bs.length = 6) (hg : g < w.heap.size) (ho : off + 6 ≤ cur.size)
    (hc : ∀ k v, (bv bs)[k]? = some v → w.cell? ⟨g, o + k, none⟩ = some v) (new : Array Value)
    (hn : (cur.toList.take off ++ bv bs ++ cur.toList.drop (off + 6)).toArray = new) :
    (Builtin.copy_ #[24, 24] 3 #[.slice (some ⟨w.heap.size + 1 + 1, off, none⟩) 6 dc, .slice (some ⟨g, o, none⟩) 6 c]).run Try.prog ((((w.alloc A).alloc B).alloc (.cells cur 26)).drewN n) =
      .ok (.int .i64 6) ((((w.alloc A).alloc B).alloc (.cells new 26)).drewN n) := by
  have hs : (Try.prog.info? 5).map (·.size) = some 1 := by kernel_rfl
  have h := run_copy_row (P := Try.prog) ((((w.alloc A).alloc B).alloc (.cells cur 26)).drewN n) 24 24 3 5 (w.heap.size + 1 + 1) off 6 dc ⟨g, o, none⟩ 6 c cur 26
    (bv bs) Try.underlying24 hs (heap3 w A B _) (by rw [bv_len, hbs]; rfl)
    (fun j v hj => by
      rw [addr_add2]
      have h2 : Below w.heap.size w ((((w.alloc A).alloc B).alloc (.cells cur 26)).drewN n) := bDr (bAl (bAl (bAl (bRef w) _) _) _) _
      rw [h2.cell hg]
      exact hc j v hj) (by rw [bv_len, hbs]; exact ho) (bv_one bs)
  rw [h, ← hn, bv_len, hbs]
  exact congrArg (fun z : World => Result.ok (Value.int .i64 6) (z.drewN n)) (setRow_top w A B cur _ 26 (0, 0))

theorem copy_top1 (w : World) (A B : Obj) (cur : Array Value) (g off o dc c : Nat) (bs : List Nat) (hbs : bs.length = 6) (hg : g < w.heap.size) (ho : off + 6 ≤ cur.size)
    (hc : ∀ k v, (bv bs)[k]? = some v → w.cell? ⟨g, o + k, none⟩ = some v) (new : Array Value)
    (hn : (cur.toList.take off ++ bv bs ++ cur.toList.drop (off + 6)).toArray = new) :
    (Builtin.copy_ #[24, 24] 3 #[.slice (some ⟨w.heap.size + 1 + 1, off, none⟩) 6 dc, .slice (some ⟨g, o, none⟩) 6 c]).run Try.prog (((w.alloc A).alloc B).alloc (.cells cur 26)).drew =
      .ok (.int .i64 6) (((w.alloc A).alloc B).alloc (.cells new 26)).drew := copy_top w A B cur 1 g off o dc c bs hbs hg ho hc new hn
theorem copy_top2 (w : World) (A B : Obj) (cur : Array Value) (g off o dc c : Nat) (bs : List Nat) (hbs : bs.length = 6) (hg : g < w.heap.size) (ho : off + 6 ≤ cur.size)
    (hc : ∀ k v, (bv bs)[k]? = some v → w.cell? ⟨g, o + k, none⟩ = some v) (new : Array Value)
    (hn : (cur.toList.take off ++ bv bs ++ cur.toList.drop (off + 6)).toArray = new) :
    (Builtin.copy_ #[24, 24] 3 #[.slice (some ⟨w.heap.size + 1 + 1, off, none⟩) 6 dc, .slice (some ⟨g, o, none⟩) 6 c]).run Try.prog (((w.alloc A).alloc B).alloc (.cells cur 26)).drew.drew =
      .ok (.int .i64 6) (((w.alloc A).alloc B).alloc (.cells new 26)).drew.drew := copy_top w A B cur 2 g off o dc c bs hbs hg ho hc new hn

/-- Stands only where a whole frame is stored. -/
theorem at_storeF {ops : Array Oper} {rest : List Oper} {d : Option Tmp} {x y : Operand} {t : TypeId} {s : String} {af : Array Edge} {a : Act} {w : World} {Q : Exit → Act → World → Prop}
    (h : wpList Try.prog ops Q (⟨d, .store 26 x y, t, s, af, none⟩ :: rest) a w) : wpList Try.prog ops Q (⟨d, .store 26 x y, t, s, af, none⟩ :: rest) a w := h

set_option maxHeartbeats 4000000 in
theorem read_tt (m c g : Nat) (w : World) (x0 x1 x2 x3 x4 x5 x6 x7 x8 x9 x10 x11 K0 H K1 Q K2 N : Nat) (dr : Bool) (hm60 : 60 ≤ m) (hmc : m ≤ c) (hm : m < 100000) (hg : g < w.heap.size)
    (HC0 : Hid (∀ k v, (bv [x0, x1, x2, x3, x4, x5])[k]? = some v → w.cell? ⟨g, 0 + k, none⟩ = some v))
    (HC6 : Hid (∀ k v, (bv [x6, x7, x8, x9, x10, x11])[k]? = some v → w.cell? ⟨g, 6 + k, none⟩ = some v))
    (HN12 : Hid (NumAt w g 12 K0)) (_ : K0 < 65536) (HN14 : Hid (NumAt w g 14 H)) (_ : H < 65536) (HN16 : Hid (NumAt w g 16 K1)) (_ : K1 < 65536) (HN20 : Hid (NumAt w g 20 Q)) (_ : Q < 65536) (HN22 : Hid (NumAt w g 22 K2)) (_ : K2 < 65536) (HN24 : Hid (NumAt w g 24 N)) (_ : N < 65536) (hk0 : (((K0 : Nat) : Int) == 33024) = true) (hk1 : (((K1 : Nat) : Int) == 61889) = true) (hdr : (bits .and .i64 (H : Int) 4096 != 0) = dr) (hvid : bits .and .i64 (H : Int) 4095 = ((H % 4096 : Nat) : Int)) :
    Calls Try.prog 29 #[.slice (some ⟨g, 0, none⟩) m c] w fun e w' => ∃ v', e = .returned (.agg #[.int .u8 (x0 : Int), .int .u8 (x1 : Int), .int .u8 (x2 : Int), .int .u8 (x3 : Int), .int .u8 (x4 : Int), .int .u8 (x5 : Int), .int .u8 (x6 : Int), .int .u8 (x7 : Int), .int .u8 (x8 : Int), .int .u8 (x9 : Int), .int .u8 (x10 : Int), .int .u8 (x11 : Int), .bool true, .int .i64 ((H % 4096 : Nat) : Int), .int .i64 ((H / 8192 : Nat) : Int), .bool dr, .bool true, .int .i64 (Q : Int), .int .i64 (K2 : Int), v']) ∧ Below w.heap.size w w' ∧
      CutAt g 26 (min N (m - 26)) v' := by
  have hc0 := copy_top1 w (.cells #[.int .u8 0, .int .u8 0, .int .u8 0, .int .u8 0, .int .u8 0, .int .u8 0, .int .u8 0, .int .u8 0, .int .u8 0, .int .u8 0, .int .u8 0, .int .u8 0, .bool false, .int .i64 0, .int .i64 0, .bool false, .bool false, .int .i64 0, .int .i64 0, .slice none 0 0] 26) (.cells #[.slice (some ⟨g, 6, none⟩) (m - 6) (c - 6)] 24) #[.int .u8 0, .int .u8 0, .int .u8 0, .int .u8 0, .int .u8 0, .int .u8 0, .int .u8 0, .int .u8 0, .int .u8 0, .int .u8 0, .int .u8 0, .int .u8 0, .bool false, .int .i64 0, .int .i64 0, .bool false, .bool false, .int .i64 0, .int .i64 0, .slice none 0 0] g 0 0 6 c [x0, x1, x2, x3, x4, x5] rfl hg (by simp) HC0.out #[.int .u8 (x0 : Int), .int .u8 (x1 : Int), .int .u8 (x2 : Int), .int .u8 (x3 : Int), .int .u8 (x4 : Int), .int .u8 (x5 : Int), .int .u8 0, .int .u8 0, .int .u8 0, .int .u8 0, .int .u8 0, .int .u8 0, .bool false, .int .i64 0, .int .i64 0, .bool false, .bool false, .int .i64 0, .int .i64 0, .slice none 0 0] rfl
  have hc6 := copy_top2 w (.cells #[.int .u8 0, .int .u8 0, .int .u8 0, .int .u8 0, .int .u8 0, .int .u8 0, .int .u8 0, .int .u8 0, .int .u8 0, .int .u8 0, .int .u8 0, .int .u8 0, .bool false, .int .i64 0, .int .i64 0, .bool false, .bool false, .int .i64 0, .int .i64 0, .slice none 0 0] 26) (.cells #[.slice (some ⟨g, 12, none⟩) (m - 6 - 6) (c - 6 - 6)] 24) #[.int .u8 (x0 : Int), .int .u8 (x1 : Int), .int .u8 (x2 : Int), .int .u8 (x3 : Int), .int .u8 (x4 : Int), .int .u8 (x5 : Int), .int .u8 0, .int .u8 0, .int .u8 0, .int .u8 0, .int .u8 0, .int .u8 0, .bool false, .int .i64 0, .int .i64 0, .bool false, .bool false, .int .i64 0, .int .i64 0, .slice none 0 0] g 6 6 6 (c - 6) [x6, x7, x8, x9, x10, x11] rfl hg (by simp) HC6.out #[.int .u8 (x0 : Int), .int .u8 (x1 : Int), .int .u8 (x2 : Int), .int .u8 (x3 : Int), .int .u8 (x4 : Int), .int .u8 (x5 : Int), .int .u8 (x6 : Int), .int .u8 (x7 : Int), .int .u8 (x8 : Int), .int .u8 (x9 : Int), .int .u8 (x10 : Int), .int .u8 (x11 : Int), .bool false, .int .i64 0, .int .i64 0, .bool false, .bool false, .int .i64 0, .int .i64 0, .slice none 0 0] rfl
  clear HC0 HC6
  go_enter Try.func29, Try.ntmps29
  go_wp2_with (go_in)
  go_region_with (go_in)
  go_wp2_with (go_in)
  go_region_with (go_in)
  clear hc0 hc6
  go_wp2_with (first
    | (go_at_call 33; (with_reducible refine (HN12.out.go _ _ (by repeat (first | exact bRef _ | refine bDr1 ?_ | refine bAl ?_ _)) (by omega)).mono ?_); rintro e wn ⟨rfl, rfl⟩)
    | (go_at_call 33; (with_reducible refine (HN14.out.go _ _ (by repeat (first | exact bRef _ | refine bDr1 ?_ | refine bAl ?_ _)) (by omega)).mono ?_); rintro e wn ⟨rfl, rfl⟩)
    | (go_at_call 33; (with_reducible refine (HN16.out.go _ _ (by repeat (first | exact bRef _ | refine bDr1 ?_ | refine bAl ?_ _)) (by omega)).mono ?_); rintro e wn ⟨rfl, rfl⟩)
    | (go_at_call 33; (with_reducible refine (HN20.out.go _ _ (by repeat (first | exact bRef _ | refine bDr1 ?_ | refine bAl ?_ _)) (by omega)).mono ?_); rintro e wn ⟨rfl, rfl⟩)
    | (go_at_call 33; (with_reducible refine (HN22.out.go _ _ (by repeat (first | exact bRef _ | refine bDr1 ?_ | refine bAl ?_ _)) (by omega)).mono ?_); rintro e wn ⟨rfl, rfl⟩)
    | (go_at_call 33; (with_reducible refine (HN24.out.go _ _ (by repeat (first | exact bRef _ | refine bDr1 ?_ | refine bAl ?_ _)) (by omega)).mono ?_); rintro e wn ⟨rfl, rfl⟩)
    | (with_reducible refine at_loadF ?_; refine wpList_loadF rfl _ rfl (w.heap.size + 1 + 1) rfl _ _ (heap3d w _ _ _) rfl ?_)
    | (with_reducible refine at_storeF ?_; refine wpList_storeF rfl _ _ rfl w.heap.size _ rfl rfl (frame_one _ _ _ _ _ _ _ _ _ _ _ _ _ _ _ _ _ _ _ _ _ _) rfl _ (heap3ad w _ _ _) rfl ?_)
    | go_in)
  all_goals
    refine bodyF rfl w.heap.size _ rfl (setRow_heap _ _ _ _ _ _ (heap3ad w _ _ _)) rfl rfl ?_
    refine ⟨_, rfl, below_setRow (by repeat (first | exact bRef _ | refine bDr1 ?_ | refine bAl ?_ _)) (Nat.le_refl _) _, ?_⟩
  all_goals exact cutAt (by omega) (by omega) (fun _ => by omega)

set_option maxHeartbeats 4000000 in
theorem read_tf (m c g : Nat) (w : World) (x0 x1 x2 x3 x4 x5 x6 x7 x8 x9 x10 x11 K0 H K1 N : Nat) (dr : Bool) (hm60 : 60 ≤ m) (hmc : m ≤ c) (hm : m < 100000) (hg : g < w.heap.size)
    (HC0 : Hid (∀ k v, (bv [x0, x1, x2, x3, x4, x5])[k]? = some v → w.cell? ⟨g, 0 + k, none⟩ = some v))
    (HC6 : Hid (∀ k v, (bv [x6, x7, x8, x9, x10, x11])[k]? = some v → w.cell? ⟨g, 6 + k, none⟩ = some v))
    (HN12 : Hid (NumAt w g 12 K0)) (_ : K0 < 65536) (HN14 : Hid (NumAt w g 14 H)) (_ : H < 65536) (HN16 : Hid (NumAt w g 16 K1)) (_ : K1 < 65536) (HN18 : Hid (NumAt w g 18 N)) (_ : N < 65536) (hk0 : (((K0 : Nat) : Int) == 33024) = true) (hk1 : (((K1 : Nat) : Int) == 61889) = false) (hdr : (bits .and .i64 (H : Int) 4096 != 0) = dr) (hvid : bits .and .i64 (H : Int) 4095 = ((H % 4096 : Nat) : Int)) :
    Calls Try.prog 29 #[.slice (some ⟨g, 0, none⟩) m c] w fun e w' => ∃ v', e = .returned (.agg #[.int .u8 (x0 : Int), .int .u8 (x1 : Int), .int .u8 (x2 : Int), .int .u8 (x3 : Int), .int .u8 (x4 : Int), .int .u8 (x5 : Int), .int .u8 (x6 : Int), .int .u8 (x7 : Int), .int .u8 (x8 : Int), .int .u8 (x9 : Int), .int .u8 (x10 : Int), .int .u8 (x11 : Int), .bool true, .int .i64 ((H % 4096 : Nat) : Int), .int .i64 ((H / 8192 : Nat) : Int), .bool dr, .bool false, .int .i64 0, .int .i64 (K1 : Int), v']) ∧ Below w.heap.size w w' ∧
      CutAt g 20 (min N (m - 20)) v' := by
  have hc0 := copy_top1 w (.cells #[.int .u8 0, .int .u8 0, .int .u8 0, .int .u8 0, .int .u8 0, .int .u8 0, .int .u8 0, .int .u8 0, .int .u8 0, .int .u8 0, .int .u8 0, .int .u8 0, .bool false, .int .i64 0, .int .i64 0, .bool false, .bool false, .int .i64 0, .int .i64 0, .slice none 0 0] 26) (.cells #[.slice (some ⟨g, 6, none⟩) (m - 6) (c - 6)] 24) #[.int .u8 0, .int .u8 0, .int .u8 0, .int .u8 0, .int .u8 0, .int .u8 0, .int .u8 0, .int .u8 0, .int .u8 0, .int .u8 0, .int .u8 0, .int .u8 0, .bool false, .int .i64 0, .int .i64 0, .bool false, .bool false, .int .i64 0, .int .i64 0, .slice none 0 0] g 0 0 6 c [x0, x1, x2, x3, x4, x5] rfl hg (by simp) HC0.out #[.int .u8 (x0 : Int), .int .u8 (x1 : Int), .int .u8 (x2 : Int), .int .u8 (x3 : Int), .int .u8 (x4 : Int), .int .u8 (x5 : Int), .int .u8 0, .int .u8 0, .int .u8 0, .int .u8 0, .int .u8 0, .int .u8 0, .bool false, .int .i64 0, .int .i64 0, .bool false, .bool false, .int .i64 0, .int .i64 0, .slice none 0 0] rfl
  have hc6 := copy_top2 w (.cells #[.int .u8 0, .int .u8 0, .int .u8 0, .int .u8 0, .int .u8 0, .int .u8 0, .int .u8 0, .int .u8 0, .int .u8 0, .int .u8 0, .int .u8 0, .int .u8 0, .bool false, .int .i64 0, .int .i64 0, .bool false, .bool false, .int .i64 0, .int .i64 0, .slice none 0 0] 26) (.cells #[.slice (some ⟨g, 12, none⟩) (m - 6 - 6) (c - 6 - 6)] 24) #[.int .u8 (x0 : Int), .int .u8 (x1 : Int), .int .u8 (x2 : Int), .int .u8 (x3 : Int), .int .u8 (x4 : Int), .int .u8 (x5 : Int), .int .u8 0, .int .u8 0, .int .u8 0, .int .u8 0, .int .u8 0, .int .u8 0, .bool false, .int .i64 0, .int .i64 0, .bool false, .bool false, .int .i64 0, .int .i64 0, .slice none 0 0] g 6 6 6 (c - 6) [x6, x7, x8, x9, x10, x11] rfl hg (by simp) HC6.out #[.int .u8 (x0 : Int), .int .u8 (x1 : Int), .int .u8 (x2 : Int), .int .u8 (x3 : Int), .int .u8 (x4 : Int), .int .u8 (x5 : Int), .int .u8 (x6 : Int), .int .u8 (x7 : Int), .int .u8 (x8 : Int), .int .u8 (x9 : Int), .int .u8 (x10 : Int), .int .u8 (x11 : Int), .bool false, .int .i64 0, .int .i64 0, .bool false, .bool false, .int .i64 0, .int .i64 0, .slice none 0 0] rfl
  clear HC0 HC6
  go_enter Try.func29, Try.ntmps29
  go_wp2_with (go_in)
  go_region_with (go_in)
  go_wp2_with (go_in)
  go_region_with (go_in)
  clear hc0 hc6
  go_wp2_with (first
    | (go_at_call 33; (with_reducible refine (HN12.out.go _ _ (by repeat (first | exact bRef _ | refine bDr1 ?_ | refine bAl ?_ _)) (by omega)).mono ?_); rintro e wn ⟨rfl, rfl⟩)
    | (go_at_call 33; (with_reducible refine (HN14.out.go _ _ (by repeat (first | exact bRef _ | refine bDr1 ?_ | refine bAl ?_ _)) (by omega)).mono ?_); rintro e wn ⟨rfl, rfl⟩)
    | (go_at_call 33; (with_reducible refine (HN16.out.go _ _ (by repeat (first | exact bRef _ | refine bDr1 ?_ | refine bAl ?_ _)) (by omega)).mono ?_); rintro e wn ⟨rfl, rfl⟩)
    | (go_at_call 33; (with_reducible refine (HN18.out.go _ _ (by repeat (first | exact bRef _ | refine bDr1 ?_ | refine bAl ?_ _)) (by omega)).mono ?_); rintro e wn ⟨rfl, rfl⟩)
    | (with_reducible refine at_loadF ?_; refine wpList_loadF rfl _ rfl (w.heap.size + 1 + 1) rfl _ _ (heap3d w _ _ _) rfl ?_)
    | (with_reducible refine at_storeF ?_; refine wpList_storeF rfl _ _ rfl w.heap.size _ rfl rfl (frame_one _ _ _ _ _ _ _ _ _ _ _ _ _ _ _ _ _ _ _ _ _ _) rfl _ (heap3ad w _ _ _) rfl ?_)
    | go_in)
  all_goals
    refine bodyF rfl w.heap.size _ rfl (setRow_heap _ _ _ _ _ _ (heap3ad w _ _ _)) rfl rfl ?_
    refine ⟨_, rfl, below_setRow (by repeat (first | exact bRef _ | refine bDr1 ?_ | refine bAl ?_ _)) (Nat.le_refl _) _, ?_⟩
  all_goals exact cutAt (by omega) (by omega) (fun _ => by omega)

set_option maxHeartbeats 4000000 in
theorem read_ft (m c g : Nat) (w : World) (x0 x1 x2 x3 x4 x5 x6 x7 x8 x9 x10 x11 K0 Q K2 N : Nat) (hm60 : 60 ≤ m) (hmc : m ≤ c) (hm : m < 100000) (hg : g < w.heap.size)
    (HC0 : Hid (∀ k v, (bv [x0, x1, x2, x3, x4, x5])[k]? = some v → w.cell? ⟨g, 0 + k, none⟩ = some v))
    (HC6 : Hid (∀ k v, (bv [x6, x7, x8, x9, x10, x11])[k]? = some v → w.cell? ⟨g, 6 + k, none⟩ = some v))
    (HN12 : Hid (NumAt w g 12 K0)) (_ : K0 < 65536) (HN16 : Hid (NumAt w g 16 Q)) (_ : Q < 65536) (HN18 : Hid (NumAt w g 18 K2)) (_ : K2 < 65536) (HN20 : Hid (NumAt w g 20 N)) (_ : N < 65536) (hk0 : (((K0 : Nat) : Int) == 33024) = false) (hk1 : (((K0 : Nat) : Int) == 61889) = true) :
    Calls Try.prog 29 #[.slice (some ⟨g, 0, none⟩) m c] w fun e w' => ∃ v', e = .returned (.agg #[.int .u8 (x0 : Int), .int .u8 (x1 : Int), .int .u8 (x2 : Int), .int .u8 (x3 : Int), .int .u8 (x4 : Int), .int .u8 (x5 : Int), .int .u8 (x6 : Int), .int .u8 (x7 : Int), .int .u8 (x8 : Int), .int .u8 (x9 : Int), .int .u8 (x10 : Int), .int .u8 (x11 : Int), .bool false, .int .i64 0, .int .i64 0, .bool false, .bool true, .int .i64 (Q : Int), .int .i64 (K2 : Int), v']) ∧ Below w.heap.size w w' ∧
      CutAt g 22 (min N (m - 22)) v' := by
  have hc0 := copy_top1 w (.cells #[.int .u8 0, .int .u8 0, .int .u8 0, .int .u8 0, .int .u8 0, .int .u8 0, .int .u8 0, .int .u8 0, .int .u8 0, .int .u8 0, .int .u8 0, .int .u8 0, .bool false, .int .i64 0, .int .i64 0, .bool false, .bool false, .int .i64 0, .int .i64 0, .slice none 0 0] 26) (.cells #[.slice (some ⟨g, 6, none⟩) (m - 6) (c - 6)] 24) #[.int .u8 0, .int .u8 0, .int .u8 0, .int .u8 0, .int .u8 0, .int .u8 0, .int .u8 0, .int .u8 0, .int .u8 0, .int .u8 0, .int .u8 0, .int .u8 0, .bool false, .int .i64 0, .int .i64 0, .bool false, .bool false, .int .i64 0, .int .i64 0, .slice none 0 0] g 0 0 6 c [x0, x1, x2, x3, x4, x5] rfl hg (by simp) HC0.out #[.int .u8 (x0 : Int), .int .u8 (x1 : Int), .int .u8 (x2 : Int), .int .u8 (x3 : Int), .int .u8 (x4 : Int), .int .u8 (x5 : Int), .int .u8 0, .int .u8 0, .int .u8 0, .int .u8 0, .int .u8 0, .int .u8 0, .bool false, .int .i64 0, .int .i64 0, .bool false, .bool false, .int .i64 0, .int .i64 0, .slice none 0 0] rfl
  have hc6 := copy_top2 w (.cells #[.int .u8 0, .int .u8 0, .int .u8 0, .int .u8 0, .int .u8 0, .int .u8 0, .int .u8 0, .int .u8 0, .int .u8 0, .int .u8 0, .int .u8 0, .int .u8 0, .bool false, .int .i64 0, .int .i64 0, .bool false, .bool false, .int .i64 0, .int .i64 0, .slice none 0 0] 26) (.cells #[.slice (some ⟨g, 12, none⟩) (m - 6 - 6) (c - 6 - 6)] 24) #[.int .u8 (x0 : Int), .int .u8 (x1 : Int), .int .u8 (x2 : Int), .int .u8 (x3 : Int), .int .u8 (x4 : Int), .int .u8 (x5 : Int), .int .u8 0, .int .u8 0, .int .u8 0, .int .u8 0, .int .u8 0, .int .u8 0, .bool false, .int .i64 0, .int .i64 0, .bool false, .bool false, .int .i64 0, .int .i64 0, .slice none 0 0] g 6 6 6 (c - 6) [x6, x7, x8, x9, x10, x11] rfl hg (by simp) HC6.out #[.int .u8 (x0 : Int), .int .u8 (x1 : Int), .int .u8 (x2 : Int), .int .u8 (x3 : Int), .int .u8 (x4 : Int), .int .u8 (x5 : Int), .int .u8 (x6 : Int), .int .u8 (x7 : Int), .int .u8 (x8 : Int), .int .u8 (x9 : Int), .int .u8 (x10 : Int), .int .u8 (x11 : Int), .bool false, .int .i64 0, .int .i64 0, .bool false, .bool false, .int .i64 0, .int .i64 0, .slice none 0 0] rfl
  clear HC0 HC6
  go_enter Try.func29, Try.ntmps29
  go_wp2_with (go_in)
  go_region_with (go_in)
  go_wp2_with (go_in)
  go_region_with (go_in)
  clear hc0 hc6
  go_wp2_with (first
    | (go_at_call 33; (with_reducible refine (HN12.out.go _ _ (by repeat (first | exact bRef _ | refine bDr1 ?_ | refine bAl ?_ _)) (by omega)).mono ?_); rintro e wn ⟨rfl, rfl⟩)
    | (go_at_call 33; (with_reducible refine (HN16.out.go _ _ (by repeat (first | exact bRef _ | refine bDr1 ?_ | refine bAl ?_ _)) (by omega)).mono ?_); rintro e wn ⟨rfl, rfl⟩)
    | (go_at_call 33; (with_reducible refine (HN18.out.go _ _ (by repeat (first | exact bRef _ | refine bDr1 ?_ | refine bAl ?_ _)) (by omega)).mono ?_); rintro e wn ⟨rfl, rfl⟩)
    | (go_at_call 33; (with_reducible refine (HN20.out.go _ _ (by repeat (first | exact bRef _ | refine bDr1 ?_ | refine bAl ?_ _)) (by omega)).mono ?_); rintro e wn ⟨rfl, rfl⟩)
    | (with_reducible refine at_loadF ?_; refine wpList_loadF rfl _ rfl (w.heap.size + 1 + 1) rfl _ _ (heap3d w _ _ _) rfl ?_)
    | (with_reducible refine at_storeF ?_; refine wpList_storeF rfl _ _ rfl w.heap.size _ rfl rfl (frame_one _ _ _ _ _ _ _ _ _ _ _ _ _ _ _ _ _ _ _ _ _ _) rfl _ (heap3ad w _ _ _) rfl ?_)
    | go_in)
  all_goals
    refine bodyF rfl w.heap.size _ rfl (setRow_heap _ _ _ _ _ _ (heap3ad w _ _ _)) rfl rfl ?_
    refine ⟨_, rfl, below_setRow (by repeat (first | exact bRef _ | refine bDr1 ?_ | refine bAl ?_ _)) (Nat.le_refl _) _, ?_⟩
  all_goals exact cutAt (by omega) (by omega) (fun _ => by omega)

set_option maxHeartbeats 4000000 in
theorem read_ff (m c g : Nat) (w : World) (x0 x1 x2 x3 x4 x5 x6 x7 x8 x9 x10 x11 K0 N : Nat) (hm60 : 60 ≤ m) (hmc : m ≤ c) (hm : m < 100000) (hg : g < w.heap.size)
    (HC0 : Hid (∀ k v, (bv [x0, x1, x2, x3, x4, x5])[k]? = some v → w.cell? ⟨g, 0 + k, none⟩ = some v))
    (HC6 : Hid (∀ k v, (bv [x6, x7, x8, x9, x10, x11])[k]? = some v → w.cell? ⟨g, 6 + k, none⟩ = some v))
    (HN12 : Hid (NumAt w g 12 K0)) (_ : K0 < 65536) (HN14 : Hid (NumAt w g 14 N)) (_ : N < 65536) (hk0 : (((K0 : Nat) : Int) == 33024) = false) (hk1 : (((K0 : Nat) : Int) == 61889) = false) :
    Calls Try.prog 29 #[.slice (some ⟨g, 0, none⟩) m c] w fun e w' => ∃ v', e = .returned (.agg #[.int .u8 (x0 : Int), .int .u8 (x1 : Int), .int .u8 (x2 : Int), .int .u8 (x3 : Int), .int .u8 (x4 : Int), .int .u8 (x5 : Int), .int .u8 (x6 : Int), .int .u8 (x7 : Int), .int .u8 (x8 : Int), .int .u8 (x9 : Int), .int .u8 (x10 : Int), .int .u8 (x11 : Int), .bool false, .int .i64 0, .int .i64 0, .bool false, .bool false, .int .i64 0, .int .i64 (K0 : Int), v']) ∧ Below w.heap.size w w' ∧
      CutAt g 16 (min N (m - 16)) v' := by
  have hc0 := copy_top1 w (.cells #[.int .u8 0, .int .u8 0, .int .u8 0, .int .u8 0, .int .u8 0, .int .u8 0, .int .u8 0, .int .u8 0, .int .u8 0, .int .u8 0, .int .u8 0, .int .u8 0, .bool false, .int .i64 0, .int .i64 0, .bool false, .bool false, .int .i64 0, .int .i64 0, .slice none 0 0] 26) (.cells #[.slice (some ⟨g, 6, none⟩) (m - 6) (c - 6)] 24) #[.int .u8 0, .int .u8 0, .int .u8 0, .int .u8 0, .int .u8 0, .int .u8 0, .int .u8 0, .int .u8 0, .int .u8 0, .int .u8 0, .int .u8 0, .int .u8 0, .bool false, .int .i64 0, .int .i64 0, .bool false, .bool false, .int .i64 0, .int .i64 0, .slice none 0 0] g 0 0 6 c [x0, x1, x2, x3, x4, x5] rfl hg (by simp) HC0.out #[.int .u8 (x0 : Int), .int .u8 (x1 : Int), .int .u8 (x2 : Int), .int .u8 (x3 : Int), .int .u8 (x4 : Int), .int .u8 (x5 : Int), .int .u8 0, .int .u8 0, .int .u8 0, .int .u8 0, .int .u8 0, .int .u8 0, .bool false, .int .i64 0, .int .i64 0, .bool false, .bool false, .int .i64 0, .int .i64 0, .slice none 0 0] rfl
  have hc6 := copy_top2 w (.cells #[.int .u8 0, .int .u8 0, .int .u8 0, .int .u8 0, .int .u8 0, .int .u8 0, .int .u8 0, .int .u8 0, .int .u8 0, .int .u8 0, .int .u8 0, .int .u8 0, .bool false, .int .i64 0, .int .i64 0, .bool false, .bool false, .int .i64 0, .int .i64 0, .slice none 0 0] 26) (.cells #[.slice (some ⟨g, 12, none⟩) (m - 6 - 6) (c - 6 - 6)] 24) #[.int .u8 (x0 : Int), .int .u8 (x1 : Int), .int .u8 (x2 : Int), .int .u8 (x3 : Int), .int .u8 (x4 : Int), .int .u8 (x5 : Int), .int .u8 0, .int .u8 0, .int .u8 0, .int .u8 0, .int .u8 0, .int .u8 0, .bool false, .int .i64 0, .int .i64 0, .bool false, .bool false, .int .i64 0, .int .i64 0, .slice none 0 0] g 6 6 6 (c - 6) [x6, x7, x8, x9, x10, x11] rfl hg (by simp) HC6.out #[.int .u8 (x0 : Int), .int .u8 (x1 : Int), .int .u8 (x2 : Int), .int .u8 (x3 : Int), .int .u8 (x4 : Int), .int .u8 (x5 : Int), .int .u8 (x6 : Int), .int .u8 (x7 : Int), .int .u8 (x8 : Int), .int .u8 (x9 : Int), .int .u8 (x10 : Int), .int .u8 (x11 : Int), .bool false, .int .i64 0, .int .i64 0, .bool false, .bool false, .int .i64 0, .int .i64 0, .slice none 0 0] rfl
  clear HC0 HC6
  go_enter Try.func29, Try.ntmps29
  go_wp2_with (go_in)
  go_region_with (go_in)
  go_wp2_with (go_in)
  go_region_with (go_in)
  clear hc0 hc6
  go_wp2_with (first
    | (go_at_call 33; (with_reducible refine (HN12.out.go _ _ (by repeat (first | exact bRef _ | refine bDr1 ?_ | refine bAl ?_ _)) (by omega)).mono ?_); rintro e wn ⟨rfl, rfl⟩)
    | (go_at_call 33; (with_reducible refine (HN14.out.go _ _ (by repeat (first | exact bRef _ | refine bDr1 ?_ | refine bAl ?_ _)) (by omega)).mono ?_); rintro e wn ⟨rfl, rfl⟩)
    | (with_reducible refine at_loadF ?_; refine wpList_loadF rfl _ rfl (w.heap.size + 1 + 1) rfl _ _ (heap3d w _ _ _) rfl ?_)
    | (with_reducible refine at_storeF ?_; refine wpList_storeF rfl _ _ rfl w.heap.size _ rfl rfl (frame_one _ _ _ _ _ _ _ _ _ _ _ _ _ _ _ _ _ _ _ _ _ _) rfl _ (heap3ad w _ _ _) rfl ?_)
    | go_in)
  all_goals
    refine bodyF rfl w.heap.size _ rfl (setRow_heap _ _ _ _ _ _ (heap3ad w _ _ _)) rfl rfl ?_
    refine ⟨_, rfl, below_setRow (by repeat (first | exact bRef _ | refine bDr1 ?_ | refine bAl ?_ _)) (Nat.le_refl _) _, ?_⟩
  all_goals exact cutAt (by omega) (by omega) (fun _ => by omega)

end Go.Proofs.Ytbpkjljienadiaa
