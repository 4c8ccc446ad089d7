/- Package ether: Check. -/
import Derived.Test.YtbpkjljienadiaaESize
namespace Go.Proofs.Ytbpkjljienadiaa
open Go.RowKit Go.Joins

namespace Fr
theorem chk_one {f : Fr} (h : ¬ f.Right) : (f.chk : Int) = 1 := by unfold chk; rw [if_neg h]; rfl
theorem chk_kind {f : Fr} (h : f.Right) (h2 : f.typ = 33024 ∨ f.typ = 61889) : (f.chk : Int) = 23 := by unfold chk; rw [if_pos h, if_pos h2]; rfl
theorem chk_long {f : Fr} (h : f.Right) (h2 : ¬ (f.typ = 33024 ∨ f.typ = 61889)) (h3 : 1600 < f.size) : (f.chk : Int) = 3 := by
  unfold chk; rw [if_pos h, if_neg h2, if_pos h3]; rfl
theorem chk_ok {f : Fr} (h : f.Right) (h2 : ¬ (f.typ = 33024 ∨ f.typ = 61889)) (h3 : ¬ 1600 < f.size) : (f.chk : Int) = 0 := by
  unfold chk; rw [if_pos h, if_neg h2, if_neg h3]; rfl
end Fr
theorem ne0 {x : Int} (h : x ≠ 0) : (x != 0) = true := by simpa using h
theorem eq0 {x : Int} (h : x = 0) : (x != 0) = false := by simpa using h
theorem chk_vid_lo (d0 d1 d2 d3 d4 d5 s0 s1 s2 s3 s4 s5 : Nat) (vid prio seq typ : Int) (_tg _dr _mn : Bool) (p : Option Addr) (n c : Nat) (_ : vid < 0) (w : World) : Calls Try.prog 15 #[.agg #[.int .u8 (d0 : Int), .int .u8 (d1 : Int), .int .u8 (d2 : Int), .int .u8 (d3 : Int), .int .u8 (d4 : Int), .int .u8 (d5 : Int), .int .u8 (s0 : Int), .int .u8 (s1 : Int), .int .u8 (s2 : Int), .int .u8 (s3 : Int), .int .u8 (s4 : Int), .int .u8 (s5 : Int), .bool _tg, .int .i64 vid, .int .i64 prio, .bool _dr, .bool _mn, .int .i64 seq, .int .i64 typ, .slice p n c]] w fun e w' => e = .returned (.int .i64 1) ∧ Below w.heap.size w w' := by
  go_enter Try.func15, Try.ntmps15
  go_wp2_with fail
  go_ret
  exact ⟨rfl, bAl (bRef w) _⟩
theorem chk_vid_hi (d0 d1 d2 d3 d4 d5 s0 s1 s2 s3 s4 s5 : Nat) (vid prio seq typ : Int) (_tg _dr _mn : Bool) (p : Option Addr) (n c : Nat) (_ : 0 ≤ vid) (_ : 4094 < vid) (w : World) : Calls Try.prog 15 #[.agg #[.int .u8 (d0 : Int), .int .u8 (d1 : Int), .int .u8 (d2 : Int), .int .u8 (d3 : Int), .int .u8 (d4 : Int), .int .u8 (d5 : Int), .int .u8 (s0 : Int), .int .u8 (s1 : Int), .int .u8 (s2 : Int), .int .u8 (s3 : Int), .int .u8 (s4 : Int), .int .u8 (s5 : Int), .bool _tg, .int .i64 vid, .int .i64 prio, .bool _dr, .bool _mn, .int .i64 seq, .int .i64 typ, .slice p n c]] w fun e w' => e = .returned (.int .i64 1) ∧ Below w.heap.size w w' := by
  go_enter Try.func15, Try.ntmps15
  go_wp2_with fail
  go_ret
  exact ⟨rfl, bAl (bRef w) _⟩
theorem chk_prio_lo (d0 d1 d2 d3 d4 d5 s0 s1 s2 s3 s4 s5 : Nat) (vid prio seq typ : Int) (_tg _dr _mn : Bool) (p : Option Addr) (n c : Nat) (_ : 0 ≤ vid) (_ : vid ≤ 4094) (_ : prio < 0) (w : World) : Calls Try.prog 15 #[.agg #[.int .u8 (d0 : Int), .int .u8 (d1 : Int), .int .u8 (d2 : Int), .int .u8 (d3 : Int), .int .u8 (d4 : Int), .int .u8 (d5 : Int), .int .u8 (s0 : Int), .int .u8 (s1 : Int), .int .u8 (s2 : Int), .int .u8 (s3 : Int), .int .u8 (s4 : Int), .int .u8 (s5 : Int), .bool _tg, .int .i64 vid, .int .i64 prio, .bool _dr, .bool _mn, .int .i64 seq, .int .i64 typ, .slice p n c]] w fun e w' => e = .returned (.int .i64 1) ∧ Below w.heap.size w w' := by
  go_enter Try.func15, Try.ntmps15
  go_wp2_with fail
  go_ret
  exact ⟨rfl, bAl (bRef w) _⟩
theorem chk_prio_hi (d0 d1 d2 d3 d4 d5 s0 s1 s2 s3 s4 s5 : Nat) (vid prio seq typ : Int) (_tg _dr _mn : Bool) (p : Option Addr) (n c : Nat) (_ : 0 ≤ vid) (_ : vid ≤ 4094) (_ : 0 ≤ prio) (_ : 7 < prio) (w : World) : Calls Try.prog 15 #[.agg #[.int .u8 (d0 : Int), .int .u8 (d1 : Int), .int .u8 (d2 : Int), .int .u8 (d3 : Int), .int .u8 (d4 : Int), .int .u8 (d5 : Int), .int .u8 (s0 : Int), .int .u8 (s1 : Int), .int .u8 (s2 : Int), .int .u8 (s3 : Int), .int .u8 (s4 : Int), .int .u8 (s5 : Int), .bool _tg, .int .i64 vid, .int .i64 prio, .bool _dr, .bool _mn, .int .i64 seq, .int .i64 typ, .slice p n c]] w fun e w' => e = .returned (.int .i64 1) ∧ Below w.heap.size w w' := by
  go_enter Try.func15, Try.ntmps15
  go_wp2_with fail
  go_ret
  exact ⟨rfl, bAl (bRef w) _⟩
theorem chk_seq_lo (d0 d1 d2 d3 d4 d5 s0 s1 s2 s3 s4 s5 : Nat) (vid prio seq typ : Int) (_tg _dr _mn : Bool) (p : Option Addr) (n c : Nat) (_ : 0 ≤ vid) (_ : vid ≤ 4094) (_ : 0 ≤ prio) (_ : prio ≤ 7) (_ : seq < 0) (w : World) : Calls Try.prog 15 #[.agg #[.int .u8 (d0 : Int), .int .u8 (d1 : Int), .int .u8 (d2 : Int), .int .u8 (d3 : Int), .int .u8 (d4 : Int), .int .u8 (d5 : Int), .int .u8 (s0 : Int), .int .u8 (s1 : Int), .int .u8 (s2 : Int), .int .u8 (s3 : Int), .int .u8 (s4 : Int), .int .u8 (s5 : Int), .bool _tg, .int .i64 vid, .int .i64 prio, .bool _dr, .bool _mn, .int .i64 seq, .int .i64 typ, .slice p n c]] w fun e w' => e = .returned (.int .i64 1) ∧ Below w.heap.size w w' := by
  go_enter Try.func15, Try.ntmps15
  go_wp2_with fail
  go_ret
  exact ⟨rfl, bAl (bRef w) _⟩
theorem chk_seq_hi (d0 d1 d2 d3 d4 d5 s0 s1 s2 s3 s4 s5 : Nat) (vid prio seq typ : Int) (_tg _dr _mn : Bool) (p : Option Addr) (n c : Nat) (_ : 0 ≤ vid) (_ : vid ≤ 4094) (_ : 0 ≤ prio) (_ : prio ≤ 7) (_ : 0 ≤ seq) (_ : 65535 < seq) (w : World) : Calls Try.prog 15 #[.agg #[.int .u8 (d0 : Int), .int .u8 (d1 : Int), .int .u8 (d2 : Int), .int .u8 (d3 : Int), .int .u8 (d4 : Int), .int .u8 (d5 : Int), .int .u8 (s0 : Int), .int .u8 (s1 : Int), .int .u8 (s2 : Int), .int .u8 (s3 : Int), .int .u8 (s4 : Int), .int .u8 (s5 : Int), .bool _tg, .int .i64 vid, .int .i64 prio, .bool _dr, .bool _mn, .int .i64 seq, .int .i64 typ, .slice p n c]] w fun e w' => e = .returned (.int .i64 1) ∧ Below w.heap.size w w' := by
  go_enter Try.func15, Try.ntmps15
  go_wp2_with fail
  go_ret
  exact ⟨rfl, bAl (bRef w) _⟩
theorem chk_typ_lo (d0 d1 d2 d3 d4 d5 s0 s1 s2 s3 s4 s5 : Nat) (vid prio seq typ : Int) (_tg _dr _mn : Bool) (p : Option Addr) (n c : Nat) (_ : 0 ≤ vid) (_ : vid ≤ 4094) (_ : 0 ≤ prio) (_ : prio ≤ 7) (_ : 0 ≤ seq) (_ : seq ≤ 65535) (_ : typ < 1536) (w : World) : Calls Try.prog 15 #[.agg #[.int .u8 (d0 : Int), .int .u8 (d1 : Int), .int .u8 (d2 : Int), .int .u8 (d3 : Int), .int .u8 (d4 : Int), .int .u8 (d5 : Int), .int .u8 (s0 : Int), .int .u8 (s1 : Int), .int .u8 (s2 : Int), .int .u8 (s3 : Int), .int .u8 (s4 : Int), .int .u8 (s5 : Int), .bool _tg, .int .i64 vid, .int .i64 prio, .bool _dr, .bool _mn, .int .i64 seq, .int .i64 typ, .slice p n c]] w fun e w' => e = .returned (.int .i64 1) ∧ Below w.heap.size w w' := by
  go_enter Try.func15, Try.ntmps15
  go_wp2_with fail
  go_ret
  exact ⟨rfl, bAl (bRef w) _⟩
theorem chk_typ_hi (d0 d1 d2 d3 d4 d5 s0 s1 s2 s3 s4 s5 : Nat) (vid prio seq typ : Int) (_tg _dr _mn : Bool) (p : Option Addr) (n c : Nat) (_ : 0 ≤ vid) (_ : vid ≤ 4094) (_ : 0 ≤ prio) (_ : prio ≤ 7) (_ : 0 ≤ seq) (_ : seq ≤ 65535) (_ : 1536 ≤ typ) (_ : 65535 < typ) (w : World) : Calls Try.prog 15 #[.agg #[.int .u8 (d0 : Int), .int .u8 (d1 : Int), .int .u8 (d2 : Int), .int .u8 (d3 : Int), .int .u8 (d4 : Int), .int .u8 (d5 : Int), .int .u8 (s0 : Int), .int .u8 (s1 : Int), .int .u8 (s2 : Int), .int .u8 (s3 : Int), .int .u8 (s4 : Int), .int .u8 (s5 : Int), .bool _tg, .int .i64 vid, .int .i64 prio, .bool _dr, .bool _mn, .int .i64 seq, .int .i64 typ, .slice p n c]] w fun e w' => e = .returned (.int .i64 1) ∧ Below w.heap.size w w' := by
  go_enter Try.func15, Try.ntmps15
  go_wp2_with fail
  go_ret
  exact ⟨rfl, bAl (bRef w) _⟩
theorem chk_u_vid (d0 d1 d2 d3 d4 d5 s0 s1 s2 s3 s4 s5 : Nat) (vid prio seq typ : Int) (_tg _dr _mn : Bool) (p : Option Addr) (n c : Nat) (_ : 0 ≤ vid) (_ : vid ≤ 4094) (_ : 0 ≤ prio) (_ : prio ≤ 7) (_ : 0 ≤ seq) (_ : seq ≤ 65535) (_ : 1536 ≤ typ) (_ : typ ≤ 65535) (_ : (vid != 0) = true) (w : World) : Calls Try.prog 15 #[.agg #[.int .u8 (d0 : Int), .int .u8 (d1 : Int), .int .u8 (d2 : Int), .int .u8 (d3 : Int), .int .u8 (d4 : Int), .int .u8 (d5 : Int), .int .u8 (s0 : Int), .int .u8 (s1 : Int), .int .u8 (s2 : Int), .int .u8 (s3 : Int), .int .u8 (s4 : Int), .int .u8 (s5 : Int), .bool false, .int .i64 vid, .int .i64 prio, .bool _dr, .bool _mn, .int .i64 seq, .int .i64 typ, .slice p n c]] w fun e w' => e = .returned (.int .i64 1) ∧ Below w.heap.size w w' := by
  go_enter Try.func15, Try.ntmps15
  go_wp2_with fail
  go_ret
  exact ⟨rfl, bAl (bRef w) _⟩
theorem chk_u_prio (d0 d1 d2 d3 d4 d5 s0 s1 s2 s3 s4 s5 : Nat) (vid prio seq typ : Int) (_tg _dr _mn : Bool) (p : Option Addr) (n c : Nat) (_ : 0 ≤ vid) (_ : vid ≤ 4094) (_ : 0 ≤ prio) (_ : prio ≤ 7) (_ : 0 ≤ seq) (_ : seq ≤ 65535) (_ : 1536 ≤ typ) (_ : typ ≤ 65535) (_ : (prio != 0) = true) (w : World) : Calls Try.prog 15 #[.agg #[.int .u8 (d0 : Int), .int .u8 (d1 : Int), .int .u8 (d2 : Int), .int .u8 (d3 : Int), .int .u8 (d4 : Int), .int .u8 (d5 : Int), .int .u8 (s0 : Int), .int .u8 (s1 : Int), .int .u8 (s2 : Int), .int .u8 (s3 : Int), .int .u8 (s4 : Int), .int .u8 (s5 : Int), .bool false, .int .i64 0, .int .i64 prio, .bool _dr, .bool _mn, .int .i64 seq, .int .i64 typ, .slice p n c]] w fun e w' => e = .returned (.int .i64 1) ∧ Below w.heap.size w w' := by
  go_enter Try.func15, Try.ntmps15
  go_wp2_with fail
  go_ret
  exact ⟨rfl, bAl (bRef w) _⟩
theorem chk_u_dr (d0 d1 d2 d3 d4 d5 s0 s1 s2 s3 s4 s5 : Nat) (vid prio seq typ : Int) (_tg _dr _mn : Bool) (p : Option Addr) (n c : Nat) (_ : 0 ≤ vid) (_ : vid ≤ 4094) (_ : 0 ≤ prio) (_ : prio ≤ 7) (_ : 0 ≤ seq) (_ : seq ≤ 65535) (_ : 1536 ≤ typ) (_ : typ ≤ 65535)  (w : World) : Calls Try.prog 15 #[.agg #[.int .u8 (d0 : Int), .int .u8 (d1 : Int), .int .u8 (d2 : Int), .int .u8 (d3 : Int), .int .u8 (d4 : Int), .int .u8 (d5 : Int), .int .u8 (s0 : Int), .int .u8 (s1 : Int), .int .u8 (s2 : Int), .int .u8 (s3 : Int), .int .u8 (s4 : Int), .int .u8 (s5 : Int), .bool false, .int .i64 0, .int .i64 0, .bool true, .bool _mn, .int .i64 seq, .int .i64 typ, .slice p n c]] w fun e w' => e = .returned (.int .i64 1) ∧ Below w.heap.size w w' := by
  go_enter Try.func15, Try.ntmps15
  go_wp2_with fail
  go_ret
  exact ⟨rfl, bAl (bRef w) _⟩
theorem chk_t_seq (d0 d1 d2 d3 d4 d5 s0 s1 s2 s3 s4 s5 : Nat) (vid prio seq typ : Int) (_tg _dr _mn : Bool) (p : Option Addr) (n c : Nat) (_ : 0 ≤ vid) (_ : vid ≤ 4094) (_ : 0 ≤ prio) (_ : prio ≤ 7) (_ : 0 ≤ seq) (_ : seq ≤ 65535) (_ : 1536 ≤ typ) (_ : typ ≤ 65535) (_ : (seq != 0) = true) (w : World) : Calls Try.prog 15 #[.agg #[.int .u8 (d0 : Int), .int .u8 (d1 : Int), .int .u8 (d2 : Int), .int .u8 (d3 : Int), .int .u8 (d4 : Int), .int .u8 (d5 : Int), .int .u8 (s0 : Int), .int .u8 (s1 : Int), .int .u8 (s2 : Int), .int .u8 (s3 : Int), .int .u8 (s4 : Int), .int .u8 (s5 : Int), .bool true, .int .i64 vid, .int .i64 prio, .bool _dr, .bool false, .int .i64 seq, .int .i64 typ, .slice p n c]] w fun e w' => e = .returned (.int .i64 1) ∧ Below w.heap.size w w' := by
  go_enter Try.func15, Try.ntmps15
  go_wp2_with fail
  go_ret
  exact ⟨rfl, bAl (bRef w) _⟩
theorem chk_tm_vlan (d0 d1 d2 d3 d4 d5 s0 s1 s2 s3 s4 s5 : Nat) (vid prio seq typ : Int) (_tg _dr _mn : Bool) (p : Option Addr) (n c : Nat) (_ : 0 ≤ vid) (_ : vid ≤ 4094) (_ : 0 ≤ prio) (_ : prio ≤ 7) (_ : 0 ≤ seq) (_ : seq ≤ 65535) (_ : 1536 ≤ typ) (_ : typ ≤ 65535) (_ : typ = 33024) (w : World) : Calls Try.prog 15 #[.agg #[.int .u8 (d0 : Int), .int .u8 (d1 : Int), .int .u8 (d2 : Int), .int .u8 (d3 : Int), .int .u8 (d4 : Int), .int .u8 (d5 : Int), .int .u8 (s0 : Int), .int .u8 (s1 : Int), .int .u8 (s2 : Int), .int .u8 (s3 : Int), .int .u8 (s4 : Int), .int .u8 (s5 : Int), .bool true, .int .i64 vid, .int .i64 prio, .bool _dr, .bool true, .int .i64 seq, .int .i64 typ, .slice p n c]] w fun e w' => e = .returned (.int .i64 23) ∧ Below w.heap.size w w' := by
  subst typ
  go_enter Try.func15, Try.ntmps15
  go_wp2_with fail
  go_ret
  exact ⟨rfl, bAl (bRef w) _⟩
theorem chk_tm_tag (d0 d1 d2 d3 d4 d5 s0 s1 s2 s3 s4 s5 : Nat) (vid prio seq typ : Int) (_tg _dr _mn : Bool) (p : Option Addr) (n c : Nat) (_ : 0 ≤ vid) (_ : vid ≤ 4094) (_ : 0 ≤ prio) (_ : prio ≤ 7) (_ : 0 ≤ seq) (_ : seq ≤ 65535) (_ : 1536 ≤ typ) (_ : typ ≤ 65535) (_ : typ = 61889) (w : World) : Calls Try.prog 15 #[.agg #[.int .u8 (d0 : Int), .int .u8 (d1 : Int), .int .u8 (d2 : Int), .int .u8 (d3 : Int), .int .u8 (d4 : Int), .int .u8 (d5 : Int), .int .u8 (s0 : Int), .int .u8 (s1 : Int), .int .u8 (s2 : Int), .int .u8 (s3 : Int), .int .u8 (s4 : Int), .int .u8 (s5 : Int), .bool true, .int .i64 vid, .int .i64 prio, .bool _dr, .bool true, .int .i64 seq, .int .i64 typ, .slice p n c]] w fun e w' => e = .returned (.int .i64 23) ∧ Below w.heap.size w w' := by
  subst typ
  go_enter Try.func15, Try.ntmps15
  go_wp2_with fail
  go_ret
  exact ⟨rfl, bAl (bRef w) _⟩
theorem chk_tm_long (d0 d1 d2 d3 d4 d5 s0 s1 s2 s3 s4 s5 : Nat) (vid prio seq typ : Int) (_tg _dr _mn : Bool) (p : Option Addr) (n c : Nat) (_ : 0 ≤ vid) (_ : vid ≤ 4094) (_ : 0 ≤ prio) (_ : prio ≤ 7) (_ : 0 ≤ seq) (_ : seq ≤ 65535) (_ : 1536 ≤ typ) (_ : typ ≤ 65535) (_ : (typ == 33024) = false) (_ : (typ == 61889) = false) (z : Int) (HS : Hid (Ret 18 #[.agg #[.int .u8 (d0 : Int), .int .u8 (d1 : Int), .int .u8 (d2 : Int), .int .u8 (d3 : Int), .int .u8 (d4 : Int), .int .u8 (d5 : Int), .int .u8 (s0 : Int), .int .u8 (s1 : Int), .int .u8 (s2 : Int), .int .u8 (s3 : Int), .int .u8 (s4 : Int), .int .u8 (s5 : Int), .bool true, .int .i64 vid, .int .i64 prio, .bool _dr, .bool true, .int .i64 seq, .int .i64 typ, .slice p n c]] (.int .i64 z))) (_ : 1600 < z) (w : World) : Calls Try.prog 15 #[.agg #[.int .u8 (d0 : Int), .int .u8 (d1 : Int), .int .u8 (d2 : Int), .int .u8 (d3 : Int), .int .u8 (d4 : Int), .int .u8 (d5 : Int), .int .u8 (s0 : Int), .int .u8 (s1 : Int), .int .u8 (s2 : Int), .int .u8 (s3 : Int), .int .u8 (s4 : Int), .int .u8 (s5 : Int), .bool true, .int .i64 vid, .int .i64 prio, .bool _dr, .bool true, .int .i64 seq, .int .i64 typ, .slice p n c]] w fun e w' => e = .returned (.int .i64 3) ∧ Below w.heap.size w w' := by
  go_enter Try.func15, Try.ntmps15
  go_wp2_with (first
    | (with_reducible refine at_loadF ?_; refine wpList_loadF rfl _ rfl w.heap.size rfl _ _ (heap_alloc_new w _) rfl ?_)
    | (go_at_call 18; (with_reducible refine (HS.out.go _).mono ?_); rintro e w1 ⟨rfl, hb⟩; have HB := Lib.hid (bTr (bAl (bRef w) _) hb); clear hb))
  go_ret
  exact ⟨rfl, HB.out⟩
theorem chk_tm_ok (d0 d1 d2 d3 d4 d5 s0 s1 s2 s3 s4 s5 : Nat) (vid prio seq typ : Int) (_tg _dr _mn : Bool) (p : Option Addr) (n c : Nat) (_ : 0 ≤ vid) (_ : vid ≤ 4094) (_ : 0 ≤ prio) (_ : prio ≤ 7) (_ : 0 ≤ seq) (_ : seq ≤ 65535) (_ : 1536 ≤ typ) (_ : typ ≤ 65535) (_ : (typ == 33024) = false) (_ : (typ == 61889) = false) (z : Int) (HS : Hid (Ret 18 #[.agg #[.int .u8 (d0 : Int), .int .u8 (d1 : Int), .int .u8 (d2 : Int), .int .u8 (d3 : Int), .int .u8 (d4 : Int), .int .u8 (d5 : Int), .int .u8 (s0 : Int), .int .u8 (s1 : Int), .int .u8 (s2 : Int), .int .u8 (s3 : Int), .int .u8 (s4 : Int), .int .u8 (s5 : Int), .bool true, .int .i64 vid, .int .i64 prio, .bool _dr, .bool true, .int .i64 seq, .int .i64 typ, .slice p n c]] (.int .i64 z))) (_ : z ≤ 1600) (w : World) : Calls Try.prog 15 #[.agg #[.int .u8 (d0 : Int), .int .u8 (d1 : Int), .int .u8 (d2 : Int), .int .u8 (d3 : Int), .int .u8 (d4 : Int), .int .u8 (d5 : Int), .int .u8 (s0 : Int), .int .u8 (s1 : Int), .int .u8 (s2 : Int), .int .u8 (s3 : Int), .int .u8 (s4 : Int), .int .u8 (s5 : Int), .bool true, .int .i64 vid, .int .i64 prio, .bool _dr, .bool true, .int .i64 seq, .int .i64 typ, .slice p n c]] w fun e w' => e = .returned (.int .i64 0) ∧ Below w.heap.size w w' := by
  go_enter Try.func15, Try.ntmps15
  go_wp2_with (first
    | (with_reducible refine at_loadF ?_; refine wpList_loadF rfl _ rfl w.heap.size rfl _ _ (heap_alloc_new w _) rfl ?_)
    | (go_at_call 18; (with_reducible refine (HS.out.go _).mono ?_); rintro e w1 ⟨rfl, hb⟩; have HB := Lib.hid (bTr (bAl (bRef w) _) hb); clear hb))
  go_ret
  exact ⟨rfl, HB.out⟩
theorem chk_to_vlan (d0 d1 d2 d3 d4 d5 s0 s1 s2 s3 s4 s5 : Nat) (vid prio seq typ : Int) (_tg _dr _mn : Bool) (p : Option Addr) (n c : Nat) (_ : 0 ≤ vid) (_ : vid ≤ 4094) (_ : 0 ≤ prio) (_ : prio ≤ 7) (_ : 0 ≤ seq) (_ : seq ≤ 65535) (_ : 1536 ≤ typ) (_ : typ ≤ 65535) (_ : typ = 33024) (w : World) : Calls Try.prog 15 #[.agg #[.int .u8 (d0 : Int), .int .u8 (d1 : Int), .int .u8 (d2 : Int), .int .u8 (d3 : Int), .int .u8 (d4 : Int), .int .u8 (d5 : Int), .int .u8 (s0 : Int), .int .u8 (s1 : Int), .int .u8 (s2 : Int), .int .u8 (s3 : Int), .int .u8 (s4 : Int), .int .u8 (s5 : Int), .bool true, .int .i64 vid, .int .i64 prio, .bool _dr, .bool false, .int .i64 0, .int .i64 typ, .slice p n c]] w fun e w' => e = .returned (.int .i64 23) ∧ Below w.heap.size w w' := by
  subst typ
  go_enter Try.func15, Try.ntmps15
  go_wp2_with fail
  go_ret
  exact ⟨rfl, bAl (bRef w) _⟩
theorem chk_to_tag (d0 d1 d2 d3 d4 d5 s0 s1 s2 s3 s4 s5 : Nat) (vid prio seq typ : Int) (_tg _dr _mn : Bool) (p : Option Addr) (n c : Nat) (_ : 0 ≤ vid) (_ : vid ≤ 4094) (_ : 0 ≤ prio) (_ : prio ≤ 7) (_ : 0 ≤ seq) (_ : seq ≤ 65535) (_ : 1536 ≤ typ) (_ : typ ≤ 65535) (_ : typ = 61889) (w : World) : Calls Try.prog 15 #[.agg #[.int .u8 (d0 : Int), .int .u8 (d1 : Int), .int .u8 (d2 : Int), .int .u8 (d3 : Int), .int .u8 (d4 : Int), .int .u8 (d5 : Int), .int .u8 (s0 : Int), .int .u8 (s1 : Int), .int .u8 (s2 : Int), .int .u8 (s3 : Int), .int .u8 (s4 : Int), .int .u8 (s5 : Int), .bool true, .int .i64 vid, .int .i64 prio, .bool _dr, .bool false, .int .i64 0, .int .i64 typ, .slice p n c]] w fun e w' => e = .returned (.int .i64 23) ∧ Below w.heap.size w w' := by
  subst typ
  go_enter Try.func15, Try.ntmps15
  go_wp2_with fail
  go_ret
  exact ⟨rfl, bAl (bRef w) _⟩
theorem chk_to_long (d0 d1 d2 d3 d4 d5 s0 s1 s2 s3 s4 s5 : Nat) (vid prio seq typ : Int) (_tg _dr _mn : Bool) (p : Option Addr) (n c : Nat) (_ : 0 ≤ vid) (_ : vid ≤ 4094) (_ : 0 ≤ prio) (_ : prio ≤ 7) (_ : 0 ≤ seq) (_ : seq ≤ 65535) (_ : 1536 ≤ typ) (_ : typ ≤ 65535) (_ : (typ == 33024) = false) (_ : (typ == 61889) = false) (z : Int) (HS : Hid (Ret 18 #[.agg #[.int .u8 (d0 : Int), .int .u8 (d1 : Int), .int .u8 (d2 : Int), .int .u8 (d3 : Int), .int .u8 (d4 : Int), .int .u8 (d5 : Int), .int .u8 (s0 : Int), .int .u8 (s1 : Int), .int .u8 (s2 : Int), .int .u8 (s3 : Int), .int .u8 (s4 : Int), .int .u8 (s5 : Int), .bool true, .int .i64 vid, .int .i64 prio, .bool _dr, .bool false, .int .i64 0, .int .i64 typ, .slice p n c]] (.int .i64 z))) (_ : 1600 < z) (w : World) : Calls Try.prog 15 #[.agg #[.int .u8 (d0 : Int), .int .u8 (d1 : Int), .int .u8 (d2 : Int), .int .u8 (d3 : Int), .int .u8 (d4 : Int), .int .u8 (d5 : Int), .int .u8 (s0 : Int), .int .u8 (s1 : Int), .int .u8 (s2 : Int), .int .u8 (s3 : Int), .int .u8 (s4 : Int), .int .u8 (s5 : Int), .bool true, .int .i64 vid, .int .i64 prio, .bool _dr, .bool false, .int .i64 0, .int .i64 typ, .slice p n c]] w fun e w' => e = .returned (.int .i64 3) ∧ Below w.heap.size w w' := by
  go_enter Try.func15, Try.ntmps15
  go_wp2_with (first
    | (with_reducible refine at_loadF ?_; refine wpList_loadF rfl _ rfl w.heap.size rfl _ _ (heap_alloc_new w _) rfl ?_)
    | (go_at_call 18; (with_reducible refine (HS.out.go _).mono ?_); rintro e w1 ⟨rfl, hb⟩; have HB := Lib.hid (bTr (bAl (bRef w) _) hb); clear hb))
  go_ret
  exact ⟨rfl, HB.out⟩
theorem chk_to_ok (d0 d1 d2 d3 d4 d5 s0 s1 s2 s3 s4 s5 : Nat) (vid prio seq typ : Int) (_tg _dr _mn : Bool) (p : Option Addr) (n c : Nat) (_ : 0 ≤ vid) (_ : vid ≤ 4094) (_ : 0 ≤ prio) (_ : prio ≤ 7) (_ : 0 ≤ seq) (_ : seq ≤ 65535) (_ : 1536 ≤ typ) (_ : typ ≤ 65535) (_ : (typ == 33024) = false) (_ : (typ == 61889) = false) (z : Int) (HS : Hid (Ret 18 #[.agg #[.int .u8 (d0 : Int), .int .u8 (d1 : Int), .int .u8 (d2 : Int), .int .u8 (d3 : Int), .int .u8 (d4 : Int), .int .u8 (d5 : Int), .int .u8 (s0 : Int), .int .u8 (s1 : Int), .int .u8 (s2 : Int), .int .u8 (s3 : Int), .int .u8 (s4 : Int), .int .u8 (s5 : Int), .bool true, .int .i64 vid, .int .i64 prio, .bool _dr, .bool false, .int .i64 0, .int .i64 typ, .slice p n c]] (.int .i64 z))) (_ : z ≤ 1600) (w : World) : Calls Try.prog 15 #[.agg #[.int .u8 (d0 : Int), .int .u8 (d1 : Int), .int .u8 (d2 : Int), .int .u8 (d3 : Int), .int .u8 (d4 : Int), .int .u8 (d5 : Int), .int .u8 (s0 : Int), .int .u8 (s1 : Int), .int .u8 (s2 : Int), .int .u8 (s3 : Int), .int .u8 (s4 : Int), .int .u8 (s5 : Int), .bool true, .int .i64 vid, .int .i64 prio, .bool _dr, .bool false, .int .i64 0, .int .i64 typ, .slice p n c]] w fun e w' => e = .returned (.int .i64 0) ∧ Below w.heap.size w w' := by
  go_enter Try.func15, Try.ntmps15
  go_wp2_with (first
    | (with_reducible refine at_loadF ?_; refine wpList_loadF rfl _ rfl w.heap.size rfl _ _ (heap_alloc_new w _) rfl ?_)
    | (go_at_call 18; (with_reducible refine (HS.out.go _).mono ?_); rintro e w1 ⟨rfl, hb⟩; have HB := Lib.hid (bTr (bAl (bRef w) _) hb); clear hb))
  go_ret
  exact ⟨rfl, HB.out⟩
theorem chk_u_seq (d0 d1 d2 d3 d4 d5 s0 s1 s2 s3 s4 s5 : Nat) (vid prio seq typ : Int) (_tg _dr _mn : Bool) (p : Option Addr) (n c : Nat) (_ : 0 ≤ vid) (_ : vid ≤ 4094) (_ : 0 ≤ prio) (_ : prio ≤ 7) (_ : 0 ≤ seq) (_ : seq ≤ 65535) (_ : 1536 ≤ typ) (_ : typ ≤ 65535) (_ : (seq != 0) = true) (w : World) : Calls Try.prog 15 #[.agg #[.int .u8 (d0 : Int), .int .u8 (d1 : Int), .int .u8 (d2 : Int), .int .u8 (d3 : Int), .int .u8 (d4 : Int), .int .u8 (d5 : Int), .int .u8 (s0 : Int), .int .u8 (s1 : Int), .int .u8 (s2 : Int), .int .u8 (s3 : Int), .int .u8 (s4 : Int), .int .u8 (s5 : Int), .bool false, .int .i64 0, .int .i64 0, .bool false, .bool false, .int .i64 seq, .int .i64 typ, .slice p n c]] w fun e w' => e = .returned (.int .i64 1) ∧ Below w.heap.size w w' := by
  go_enter Try.func15, Try.ntmps15
  go_wp2_with fail
  go_ret
  exact ⟨rfl, bAl (bRef w) _⟩
theorem chk_um_vlan (d0 d1 d2 d3 d4 d5 s0 s1 s2 s3 s4 s5 : Nat) (vid prio seq typ : Int) (_tg _dr _mn : Bool) (p : Option Addr) (n c : Nat) (_ : 0 ≤ vid) (_ : vid ≤ 4094) (_ : 0 ≤ prio) (_ : prio ≤ 7) (_ : 0 ≤ seq) (_ : seq ≤ 65535) (_ : 1536 ≤ typ) (_ : typ ≤ 65535) (_ : typ = 33024) (w : World) : Calls Try.prog 15 #[.agg #[.int .u8 (d0 : Int), .int .u8 (d1 : Int), .int .u8 (d2 : Int), .int .u8 (d3 : Int), .int .u8 (d4 : Int), .int .u8 (d5 : Int), .int .u8 (s0 : Int), .int .u8 (s1 : Int), .int .u8 (s2 : Int), .int .u8 (s3 : Int), .int .u8 (s4 : Int), .int .u8 (s5 : Int), .bool false, .int .i64 0, .int .i64 0, .bool false, .bool true, .int .i64 seq, .int .i64 typ, .slice p n c]] w fun e w' => e = .returned (.int .i64 23) ∧ Below w.heap.size w w' := by
  subst typ
  go_enter Try.func15, Try.ntmps15
  go_wp2_with fail
  go_ret
  exact ⟨rfl, bAl (bRef w) _⟩
theorem chk_um_tag (d0 d1 d2 d3 d4 d5 s0 s1 s2 s3 s4 s5 : Nat) (vid prio seq typ : Int) (_tg _dr _mn : Bool) (p : Option Addr) (n c : Nat) (_ : 0 ≤ vid) (_ : vid ≤ 4094) (_ : 0 ≤ prio) (_ : prio ≤ 7) (_ : 0 ≤ seq) (_ : seq ≤ 65535) (_ : 1536 ≤ typ) (_ : typ ≤ 65535) (_ : typ = 61889) (w : World) : Calls Try.prog 15 #[.agg #[.int .u8 (d0 : Int), .int .u8 (d1 : Int), .int .u8 (d2 : Int), .int .u8 (d3 : Int), .int .u8 (d4 : Int), .int .u8 (d5 : Int), .int .u8 (s0 : Int), .int .u8 (s1 : Int), .int .u8 (s2 : Int), .int .u8 (s3 : Int), .int .u8 (s4 : Int), .int .u8 (s5 : Int), .bool false, .int .i64 0, .int .i64 0, .bool false, .bool true, .int .i64 seq, .int .i64 typ, .slice p n c]] w fun e w' => e = .returned (.int .i64 23) ∧ Below w.heap.size w w' := by
  subst typ
  go_enter Try.func15, Try.ntmps15
  go_wp2_with fail
  go_ret
  exact ⟨rfl, bAl (bRef w) _⟩
theorem chk_um_long (d0 d1 d2 d3 d4 d5 s0 s1 s2 s3 s4 s5 : Nat) (vid prio seq typ : Int) (_tg _dr _mn : Bool) (p : Option Addr) (n c : Nat) (_ : 0 ≤ vid) (_ : vid ≤ 4094) (_ : 0 ≤ prio) (_ : prio ≤ 7) (_ : 0 ≤ seq) (_ : seq ≤ 65535) (_ : 1536 ≤ typ) (_ : typ ≤ 65535) (_ : (typ == 33024) = false) (_ : (typ == 61889) = false) (z : Int) (HS : Hid (Ret 18 #[.agg #[.int .u8 (d0 : Int), .int .u8 (d1 : Int), .int .u8 (d2 : Int), .int .u8 (d3 : Int), .int .u8 (d4 : Int), .int .u8 (d5 : Int), .int .u8 (s0 : Int), .int .u8 (s1 : Int), .int .u8 (s2 : Int), .int .u8 (s3 : Int), .int .u8 (s4 : Int), .int .u8 (s5 : Int), .bool false, .int .i64 0, .int .i64 0, .bool false, .bool true, .int .i64 seq, .int .i64 typ, .slice p n c]] (.int .i64 z))) (_ : 1600 < z) (w : World) : Calls Try.prog 15 #[.agg #[.int .u8 (d0 : Int), .int .u8 (d1 : Int), .int .u8 (d2 : Int), .int .u8 (d3 : Int), .int .u8 (d4 : Int), .int .u8 (d5 : Int), .int .u8 (s0 : Int), .int .u8 (s1 : Int), .int .u8 (s2 : Int), .int .u8 (s3 : Int), .int .u8 (s4 : Int), .int .u8 (s5 : Int), .bool false, .int .i64 0, .int .i64 0, .bool false, .bool true, .int .i64 seq, .int .i64 typ, .slice p n c]] w fun e w' => e = .returned (.int .i64 3) ∧ Below w.heap.size w w' := by
  go_enter Try.func15, Try.ntmps15
  go_wp2_with (first
    | (with_reducible refine at_loadF ?_; refine wpList_loadF rfl _ rfl w.heap.size rfl _ _ (heap_alloc_new w _) rfl ?_)
    | (go_at_call 18; (with_reducible refine (HS.out.go _).mono ?_); rintro e w1 ⟨rfl, hb⟩; have HB := Lib.hid (bTr (bAl (bRef w) _) hb); clear hb))
  go_ret
  exact ⟨rfl, HB.out⟩
theorem chk_um_ok (d0 d1 d2 d3 d4 d5 s0 s1 s2 s3 s4 s5 : Nat) (vid prio seq typ : Int) (_tg _dr _mn : Bool) (p : Option Addr) (n c : Nat) (_ : 0 ≤ vid) (_ : vid ≤ 4094) (_ : 0 ≤ prio) (_ : prio ≤ 7) (_ : 0 ≤ seq) (_ : seq ≤ 65535) (_ : 1536 ≤ typ) (_ : typ ≤ 65535) (_ : (typ == 33024) = false) (_ : (typ == 61889) = false) (z : Int) (HS : Hid (Ret 18 #[.agg #[.int .u8 (d0 : Int), .int .u8 (d1 : Int), .int .u8 (d2 : Int), .int .u8 (d3 : Int), .int .u8 (d4 : Int), .int .u8 (d5 : Int), .int .u8 (s0 : Int), .int .u8 (s1 : Int), .int .u8 (s2 : Int), .int .u8 (s3 : Int), .int .u8 (s4 : Int), .int .u8 (s5 : Int), .bool false, .int .i64 0, .int .i64 0, .bool false, .bool true, .int .i64 seq, .int .i64 typ, .slice p n c]] (.int .i64 z))) (_ : z ≤ 1600) (w : World) : Calls Try.prog 15 #[.agg #[.int .u8 (d0 : Int), .int .u8 (d1 : Int), .int .u8 (d2 : Int), .int .u8 (d3 : Int), .int .u8 (d4 : Int), .int .u8 (d5 : Int), .int .u8 (s0 : Int), .int .u8 (s1 : Int), .int .u8 (s2 : Int), .int .u8 (s3 : Int), .int .u8 (s4 : Int), .int .u8 (s5 : Int), .bool false, .int .i64 0, .int .i64 0, .bool false, .bool true, .int .i64 seq, .int .i64 typ, .slice p n c]] w fun e w' => e = .returned (.int .i64 0) ∧ Below w.heap.size w w' := by
  go_enter Try.func15, Try.ntmps15
  go_wp2_with (first
    | (with_reducible refine at_loadF ?_; refine wpList_loadF rfl _ rfl w.heap.size rfl _ _ (heap_alloc_new w _) rfl ?_)
    | (go_at_call 18; (with_reducible refine (HS.out.go _).mono ?_); rintro e w1 ⟨rfl, hb⟩; have HB := Lib.hid (bTr (bAl (bRef w) _) hb); clear hb))
  go_ret
  exact ⟨rfl, HB.out⟩
theorem chk_uo_vlan (d0 d1 d2 d3 d4 d5 s0 s1 s2 s3 s4 s5 : Nat) (vid prio seq typ : Int) (_tg _dr _mn : Bool) (p : Option Addr) (n c : Nat) (_ : 0 ≤ vid) (_ : vid ≤ 4094) (_ : 0 ≤ prio) (_ : prio ≤ 7) (_ : 0 ≤ seq) (_ : seq ≤ 65535) (_ : 1536 ≤ typ) (_ : typ ≤ 65535) (_ : typ = 33024) (w : World) : Calls Try.prog 15 #[.agg #[.int .u8 (d0 : Int), .int .u8 (d1 : Int), .int .u8 (d2 : Int), .int .u8 (d3 : Int), .int .u8 (d4 : Int), .int .u8 (d5 : Int), .int .u8 (s0 : Int), .int .u8 (s1 : Int), .int .u8 (s2 : Int), .int .u8 (s3 : Int), .int .u8 (s4 : Int), .int .u8 (s5 : Int), .bool false, .int .i64 0, .int .i64 0, .bool false, .bool false, .int .i64 0, .int .i64 typ, .slice p n c]] w fun e w' => e = .returned (.int .i64 23) ∧ Below w.heap.size w w' := by
  subst typ
  go_enter Try.func15, Try.ntmps15
  go_wp2_with fail
  go_ret
  exact ⟨rfl, bAl (bRef w) _⟩
theorem chk_uo_tag (d0 d1 d2 d3 d4 d5 s0 s1 s2 s3 s4 s5 : Nat) (vid prio seq typ : Int) (_tg _dr _mn : Bool) (p : Option Addr) (n c : Nat) (_ : 0 ≤ vid) (_ : vid ≤ 4094) (_ : 0 ≤ prio) (_ : prio ≤ 7) (_ : 0 ≤ seq) (_ : seq ≤ 65535) (_ : 1536 ≤ typ) (_ : typ ≤ 65535) (_ : typ = 61889) (w : World) : Calls Try.prog 15 #[.agg #[.int .u8 (d0 : Int), .int .u8 (d1 : Int), .int .u8 (d2 : Int), .int .u8 (d3 : Int), .int .u8 (d4 : Int), .int .u8 (d5 : Int), .int .u8 (s0 : Int), .int .u8 (s1 : Int), .int .u8 (s2 : Int), .int .u8 (s3 : Int), .int .u8 (s4 : Int), .int .u8 (s5 : Int), .bool false, .int .i64 0, .int .i64 0, .bool false, .bool false, .int .i64 0, .int .i64 typ, .slice p n c]] w fun e w' => e = .returned (.int .i64 23) ∧ Below w.heap.size w w' := by
  subst typ
  go_enter Try.func15, Try.ntmps15
  go_wp2_with fail
  go_ret
  exact ⟨rfl, bAl (bRef w) _⟩
theorem chk_uo_long (d0 d1 d2 d3 d4 d5 s0 s1 s2 s3 s4 s5 : Nat) (vid prio seq typ : Int) (_tg _dr _mn : Bool) (p : Option Addr) (n c : Nat) (_ : 0 ≤ vid) (_ : vid ≤ 4094) (_ : 0 ≤ prio) (_ : prio ≤ 7) (_ : 0 ≤ seq) (_ : seq ≤ 65535) (_ : 1536 ≤ typ) (_ : typ ≤ 65535) (_ : (typ == 33024) = false) (_ : (typ == 61889) = false) (z : Int) (HS : Hid (Ret 18 #[.agg #[.int .u8 (d0 : Int), .int .u8 (d1 : Int), .int .u8 (d2 : Int), .int .u8 (d3 : Int), .int .u8 (d4 : Int), .int .u8 (d5 : Int), .int .u8 (s0 : Int), .int .u8 (s1 : Int), .int .u8 (s2 : Int), .int .u8 (s3 : Int), .int .u8 (s4 : Int), .int .u8 (s5 : Int), .bool false, .int .i64 0, .int .i64 0, .bool false, .bool false, .int .i64 0, .int .i64 typ, .slice p n c]] (.int .i64 z))) (_ : 1600 < z) (w : World) : Calls Try.prog 15 #[.agg #[.int .u8 (d0 : Int), .int .u8 (d1 : Int), .int .u8 (d2 : Int), .int .u8 (d3 : Int), .int .u8 (d4 : Int), .int .u8 (d5 : Int), .int .u8 (s0 : Int), .int .u8 (s1 : Int), .int .u8 (s2 : Int), .int .u8 (s3 : Int), .int .u8 (s4 : Int), .int .u8 (s5 : Int), .bool false, .int .i64 0, .int .i64 0, .bool false, .bool false, .int .i64 0, .int .i64 typ, .slice p n c]] w fun e w' => e = .returned (.int .i64 3) ∧ Below w.heap.size w w' := by
  go_enter Try.func15, Try.ntmps15
  go_wp2_with (first
    | (with_reducible refine at_loadF ?_; refine wpList_loadF rfl _ rfl w.heap.size rfl _ _ (heap_alloc_new w _) rfl ?_)
    | (go_at_call 18; (with_reducible refine (HS.out.go _).mono ?_); rintro e w1 ⟨rfl, hb⟩; have HB := Lib.hid (bTr (bAl (bRef w) _) hb); clear hb))
  go_ret
  exact ⟨rfl, HB.out⟩
theorem chk_uo_ok (d0 d1 d2 d3 d4 d5 s0 s1 s2 s3 s4 s5 : Nat) (vid prio seq typ : Int) (_tg _dr _mn : Bool) (p : Option Addr) (n c : Nat) (_ : 0 ≤ vid) (_ : vid ≤ 4094) (_ : 0 ≤ prio) (_ : prio ≤ 7) (_ : 0 ≤ seq) (_ : seq ≤ 65535) (_ : 1536 ≤ typ) (_ : typ ≤ 65535) (_ : (typ == 33024) = false) (_ : (typ == 61889) = false) (z : Int) (HS : Hid (Ret 18 #[.agg #[.int .u8 (d0 : Int), .int .u8 (d1 : Int), .int .u8 (d2 : Int), .int .u8 (d3 : Int), .int .u8 (d4 : Int), .int .u8 (d5 : Int), .int .u8 (s0 : Int), .int .u8 (s1 : Int), .int .u8 (s2 : Int), .int .u8 (s3 : Int), .int .u8 (s4 : Int), .int .u8 (s5 : Int), .bool false, .int .i64 0, .int .i64 0, .bool false, .bool false, .int .i64 0, .int .i64 typ, .slice p n c]] (.int .i64 z))) (_ : z ≤ 1600) (w : World) : Calls Try.prog 15 #[.agg #[.int .u8 (d0 : Int), .int .u8 (d1 : Int), .int .u8 (d2 : Int), .int .u8 (d3 : Int), .int .u8 (d4 : Int), .int .u8 (d5 : Int), .int .u8 (s0 : Int), .int .u8 (s1 : Int), .int .u8 (s2 : Int), .int .u8 (s3 : Int), .int .u8 (s4 : Int), .int .u8 (s5 : Int), .bool false, .int .i64 0, .int .i64 0, .bool false, .bool false, .int .i64 0, .int .i64 typ, .slice p n c]] w fun e w' => e = .returned (.int .i64 0) ∧ Below w.heap.size w w' := by
  go_enter Try.func15, Try.ntmps15
  go_wp2_with (first
    | (with_reducible refine at_loadF ?_; refine wpList_loadF rfl _ rfl w.heap.size rfl _ _ (heap_alloc_new w _) rfl ?_)
    | (go_at_call 18; (with_reducible refine (HS.out.go _).mono ?_); rintro e w1 ⟨rfl, hb⟩; have HB := Lib.hid (bTr (bAl (bRef w) _) hb); clear hb))
  go_ret
  exact ⟨rfl, HB.out⟩

set_option maxHeartbeats 1000000 in
theorem check_ret (f : Fr) (p : Option Addr) (n c : Nat) (hn : f.data.length = n) (hl : n < 140737488355328) : Ret 15 #[FV f (.slice p n c)] (.int .i64 (f.chk : Int)) := fun w => by
  have HS := Lib.hid (size_ret f p n c hn hl)
  have C1 := fun h => Fr.chk_one (f := f) h
  have C2 := fun h h2 => Fr.chk_kind (f := f) h h2
  have C3 := fun h h2 h3 => Fr.chk_long (f := f) h h2 h3
  have C4 := fun h h2 h3 => Fr.chk_ok (f := f) h h2 h3
  obtain ⟨chk, hchk⟩ : ∃ x, x = (f.chk : Int) := ⟨_, rfl⟩
  obtain ⟨size, hsize⟩ : ∃ x, x = f.size := ⟨_, rfl⟩
  rw [← hchk] at C1 C2 C3 C4 ⊢
  rw [← hsize] at C3 C4 HS
  clear hchk hsize hn
  obtain ⟨d0, d1, d2, d3, d4, d5, s0, s1, s2, s3, s4, s5, tg, vid, prio, dr, mn, seq, typ, data⟩ := f
  unfold Fr.Right at C1 C2 C3 C4
  dsimp only at C1 C2 C3 C4
  unfold FV at HS ⊢
  dsimp only at HS ⊢
  rcases Int.lt_or_le vid 0 with vid1 | vid1
  · rw [C1 (by omega)]
    exact chk_vid_lo d0 d1 d2 d3 d4 d5 s0 s1 s2 s3 s4 s5 vid prio seq typ tg dr mn p n c (by omega) w
  rcases Int.lt_or_le 4094 vid with vid2 | vid2
  · rw [C1 (by omega)]
    exact chk_vid_hi d0 d1 d2 d3 d4 d5 s0 s1 s2 s3 s4 s5 vid prio seq typ tg dr mn p n c (by omega) (by omega) w
  rcases Int.lt_or_le prio 0 with prio1 | prio1
  · rw [C1 (by omega)]
    exact chk_prio_lo d0 d1 d2 d3 d4 d5 s0 s1 s2 s3 s4 s5 vid prio seq typ tg dr mn p n c (by omega) (by omega) (by omega) w
  rcases Int.lt_or_le 7 prio with prio2 | prio2
  · rw [C1 (by omega)]
    exact chk_prio_hi d0 d1 d2 d3 d4 d5 s0 s1 s2 s3 s4 s5 vid prio seq typ tg dr mn p n c (by omega) (by omega) (by omega) (by omega) w
  rcases Int.lt_or_le seq 0 with seq1 | seq1
  · rw [C1 (by omega)]
    exact chk_seq_lo d0 d1 d2 d3 d4 d5 s0 s1 s2 s3 s4 s5 vid prio seq typ tg dr mn p n c (by omega) (by omega) (by omega) (by omega) (by omega) w
  rcases Int.lt_or_le 65535 seq with seq2 | seq2
  · rw [C1 (by omega)]
    exact chk_seq_hi d0 d1 d2 d3 d4 d5 s0 s1 s2 s3 s4 s5 vid prio seq typ tg dr mn p n c (by omega) (by omega) (by omega) (by omega) (by omega) (by omega) w
  rcases Int.lt_or_le typ 1536 with typ1 | typ1
  · rw [C1 (by omega)]
    exact chk_typ_lo d0 d1 d2 d3 d4 d5 s0 s1 s2 s3 s4 s5 vid prio seq typ tg dr mn p n c (by omega) (by omega) (by omega) (by omega) (by omega) (by omega) (by omega) w
  rcases Int.lt_or_le 65535 typ with typ2 | typ2
  · rw [C1 (by omega)]
    exact chk_typ_hi d0 d1 d2 d3 d4 d5 s0 s1 s2 s3 s4 s5 vid prio seq typ tg dr mn p n c (by omega) (by omega) (by omega) (by omega) (by omega) (by omega) (by omega) (by omega) w
  have key : ∀ (g : Bool), g = tg → (tg = false → vid = 0 ∧ prio = 0 ∧ dr = false) → Calls Try.prog 15 #[.agg #[.int .u8 (d0 : Int), .int .u8 (d1 : Int), .int .u8 (d2 : Int), .int .u8 (d3 : Int), .int .u8 (d4 : Int), .int .u8 (d5 : Int), .int .u8 (s0 : Int), .int .u8 (s1 : Int), .int .u8 (s2 : Int), .int .u8 (s3 : Int), .int .u8 (s4 : Int), .int .u8 (s5 : Int), .bool tg, .int .i64 vid, .int .i64 prio, .bool dr, .bool mn, .int .i64 seq, .int .i64 typ, .slice p n c]] w fun e w' => e = .returned (.int .i64 chk) ∧ Below w.heap.size w w' := by
    intro g hg ht
    have Hm : mn = true ∨ (mn = false ∧ seq ≠ 0) ∨ (mn = false ∧ seq = 0) := by cases mn <;> simp <;> omega
    rcases Hm with rfl | ⟨rfl, hs⟩ | ⟨rfl, hs⟩
    · have hr : 0 ≤ vid ∧ vid ≤ 4094 ∧ 0 ≤ prio ∧ prio ≤ 7 ∧ 0 ≤ seq ∧ seq ≤ 65535 ∧ 1536 ≤ typ ∧ typ ≤ 65535 ∧ (tg = false → vid = 0 ∧ prio = 0 ∧ dr = false) ∧ (true = false → seq = 0) := ⟨vid1, vid2, prio1, prio2, seq1, seq2, typ1, typ2, ht, fun e => by cases e⟩
      cases tg with
      | true =>
        by_cases k1 : typ = 33024
        · rw [C2 hr (.inl k1)]
          exact chk_tm_vlan d0 d1 d2 d3 d4 d5 s0 s1 s2 s3 s4 s5 vid prio seq typ true dr true p n c (by omega) (by omega) (by omega) (by omega) (by omega) (by omega) (by omega) (by omega) k1 w
        by_cases k2 : typ = 61889
        · rw [C2 hr (.inr k2)]
          exact chk_tm_tag d0 d1 d2 d3 d4 d5 s0 s1 s2 s3 s4 s5 vid prio seq typ true dr true p n c (by omega) (by omega) (by omega) (by omega) (by omega) (by omega) (by omega) (by omega) k2 w
        have k3 : ¬ (typ = 33024 ∨ typ = 61889) := by omega
        rcases Nat.lt_or_ge 1600 size with k4 | k4
        · rw [C3 hr k3 k4]
          exact chk_tm_long d0 d1 d2 d3 d4 d5 s0 s1 s2 s3 s4 s5 vid prio seq typ true dr true p n c (by omega) (by omega) (by omega) (by omega) (by omega) (by omega) (by omega) (by omega) (by simpa using k1) (by simpa using k2) size HS (by omega) w
        · rw [C4 hr k3 (by omega)]
          exact chk_tm_ok d0 d1 d2 d3 d4 d5 s0 s1 s2 s3 s4 s5 vid prio seq typ true dr true p n c (by omega) (by omega) (by omega) (by omega) (by omega) (by omega) (by omega) (by omega) (by simpa using k1) (by simpa using k2) size HS (by omega) w
      | false =>
        obtain ⟨rfl, rfl, rfl⟩ := ht rfl
        by_cases k1 : typ = 33024
        · rw [C2 hr (.inl k1)]
          exact chk_um_vlan d0 d1 d2 d3 d4 d5 s0 s1 s2 s3 s4 s5 0 0 seq typ false false true p n c (by omega) (by omega) (by omega) (by omega) (by omega) (by omega) (by omega) (by omega) k1 w
        by_cases k2 : typ = 61889
        · rw [C2 hr (.inr k2)]
          exact chk_um_tag d0 d1 d2 d3 d4 d5 s0 s1 s2 s3 s4 s5 0 0 seq typ false false true p n c (by omega) (by omega) (by omega) (by omega) (by omega) (by omega) (by omega) (by omega) k2 w
        have k3 : ¬ (typ = 33024 ∨ typ = 61889) := by omega
        rcases Nat.lt_or_ge 1600 size with k4 | k4
        · rw [C3 hr k3 k4]
          exact chk_um_long d0 d1 d2 d3 d4 d5 s0 s1 s2 s3 s4 s5 0 0 seq typ false false true p n c (by omega) (by omega) (by omega) (by omega) (by omega) (by omega) (by omega) (by omega) (by simpa using k1) (by simpa using k2) size HS (by omega) w
        · rw [C4 hr k3 (by omega)]
          exact chk_um_ok d0 d1 d2 d3 d4 d5 s0 s1 s2 s3 s4 s5 0 0 seq typ false false true p n c (by omega) (by omega) (by omega) (by omega) (by omega) (by omega) (by omega) (by omega) (by simpa using k1) (by simpa using k2) size HS (by omega) w
    · rw [C1 (fun hh => hs (hh.2.2.2.2.2.2.2.2.2 rfl))]
      cases tg with
      | true => exact chk_t_seq d0 d1 d2 d3 d4 d5 s0 s1 s2 s3 s4 s5 vid prio seq typ true dr false p n c (by omega) (by omega) (by omega) (by omega) (by omega) (by omega) (by omega) (by omega) (ne0 hs) w
      | false =>
        obtain ⟨rfl, rfl, rfl⟩ := ht rfl
        exact chk_u_seq d0 d1 d2 d3 d4 d5 s0 s1 s2 s3 s4 s5 0 0 seq typ false false false p n c (by omega) (by omega) (by omega) (by omega) (by omega) (by omega) (by omega) (by omega) (ne0 hs) w
    · have hr : 0 ≤ vid ∧ vid ≤ 4094 ∧ 0 ≤ prio ∧ prio ≤ 7 ∧ 0 ≤ seq ∧ seq ≤ 65535 ∧ 1536 ≤ typ ∧ typ ≤ 65535 ∧ (tg = false → vid = 0 ∧ prio = 0 ∧ dr = false) ∧ (false = false → seq = 0) := ⟨vid1, vid2, prio1, prio2, seq1, seq2, typ1, typ2, ht, fun _ => hs⟩
      have hs' := hs
      subst hs
      cases tg with
      | true =>
        by_cases k1 : typ = 33024
        · rw [C2 hr (.inl k1)]
          exact chk_to_vlan d0 d1 d2 d3 d4 d5 s0 s1 s2 s3 s4 s5 vid prio 0 typ true dr false p n c (by omega) (by omega) (by omega) (by omega) (by omega) (by omega) (by omega) (by omega) k1 w
        by_cases k2 : typ = 61889
        · rw [C2 hr (.inr k2)]
          exact chk_to_tag d0 d1 d2 d3 d4 d5 s0 s1 s2 s3 s4 s5 vid prio 0 typ true dr false p n c (by omega) (by omega) (by omega) (by omega) (by omega) (by omega) (by omega) (by omega) k2 w
        have k3 : ¬ (typ = 33024 ∨ typ = 61889) := by omega
        rcases Nat.lt_or_ge 1600 size with k4 | k4
        · rw [C3 hr k3 k4]
          exact chk_to_long d0 d1 d2 d3 d4 d5 s0 s1 s2 s3 s4 s5 vid prio 0 typ true dr false p n c (by omega) (by omega) (by omega) (by omega) (by omega) (by omega) (by omega) (by omega) (by simpa using k1) (by simpa using k2) size HS (by omega) w
        · rw [C4 hr k3 (by omega)]
          exact chk_to_ok d0 d1 d2 d3 d4 d5 s0 s1 s2 s3 s4 s5 vid prio 0 typ true dr false p n c (by omega) (by omega) (by omega) (by omega) (by omega) (by omega) (by omega) (by omega) (by simpa using k1) (by simpa using k2) size HS (by omega) w
      | false =>
        obtain ⟨rfl, rfl, rfl⟩ := ht rfl
        by_cases k1 : typ = 33024
        · rw [C2 hr (.inl k1)]
          exact chk_uo_vlan d0 d1 d2 d3 d4 d5 s0 s1 s2 s3 s4 s5 0 0 0 typ false false false p n c (by omega) (by omega) (by omega) (by omega) (by omega) (by omega) (by omega) (by omega) k1 w
        by_cases k2 : typ = 61889
        · rw [C2 hr (.inr k2)]
          exact chk_uo_tag d0 d1 d2 d3 d4 d5 s0 s1 s2 s3 s4 s5 0 0 0 typ false false false p n c (by omega) (by omega) (by omega) (by omega) (by omega) (by omega) (by omega) (by omega) k2 w
        have k3 : ¬ (typ = 33024 ∨ typ = 61889) := by omega
        rcases Nat.lt_or_ge 1600 size with k4 | k4
        · rw [C3 hr k3 k4]
          exact chk_uo_long d0 d1 d2 d3 d4 d5 s0 s1 s2 s3 s4 s5 0 0 0 typ false false false p n c (by omega) (by omega) (by omega) (by omega) (by omega) (by omega) (by omega) (by omega) (by simpa using k1) (by simpa using k2) size HS (by omega) w
        · rw [C4 hr k3 (by omega)]
          exact chk_uo_ok d0 d1 d2 d3 d4 d5 s0 s1 s2 s3 s4 s5 0 0 0 typ false false false p n c (by omega) (by omega) (by omega) (by omega) (by omega) (by omega) (by omega) (by omega) (by simpa using k1) (by simpa using k2) size HS (by omega) w
  cases tg with
  | true => exact key true rfl (fun e => by cases e)
  | false =>
    by_cases hv : vid = 0
    · by_cases hp : prio = 0
      · cases dr with
        | false => exact key false rfl (fun _ => ⟨hv, hp, rfl⟩)
        | true =>
          rw [C1 (fun hh => by have := (hh.2.2.2.2.2.2.2.2.1 rfl).2.2; cases this)]
          subst hv hp
          exact chk_u_dr d0 d1 d2 d3 d4 d5 s0 s1 s2 s3 s4 s5 0 0 seq typ false true mn p n c (by omega) (by omega) (by omega) (by omega) (by omega) (by omega) (by omega) (by omega) w
      · rw [C1 (fun hh => hp (hh.2.2.2.2.2.2.2.2.1 rfl).2.1)]
        subst hv
        exact chk_u_prio d0 d1 d2 d3 d4 d5 s0 s1 s2 s3 s4 s5 0 prio seq typ false dr mn p n c (by omega) (by omega) (by omega) (by omega) (by omega) (by omega) (by omega) (by omega) (ne0 hp) w
    · rw [C1 (fun hh => hv (hh.2.2.2.2.2.2.2.2.1 rfl).1)]
      exact chk_u_vid d0 d1 d2 d3 d4 d5 s0 s1 s2 s3 s4 s5 vid prio seq typ false dr mn p n c (by omega) (by omega) (by omega) (by omega) (by omega) (by omega) (by omega) (by omega) (ne0 hv) w

end Go.Proofs.Ytbpkjljienadiaa
