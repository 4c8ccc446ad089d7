/- PairHolds: once a time is told the pair never is without one; for all arguments. -/
import Derived.Test.YtfeoppbincldfaaFPairHolds
import Derived.Test.YtfeoppbincldfaaPrLaw
import Derived.Test.YtfeoppbincldfaaLow
namespace Go.Proofs.Ytfeoppbincldfaa
open Go.RowKit Go.Joins Go.Deep

theorem low40 (x : Int) : bits .and .i64 x 1099511627775 = x % 1099511627776 := and_low x 40 (by omega)
def HSt (l : Int) : PP := ⟨(CS.new 0).tol 0 0, CS.new 1, 1048576, false, l⟩
theorem hst_ok {l : Int} (hl : l = -1 ∨ l = 0 ∨ l = 1) : (HSt l).Ok := ⟨tol_ok in64_0 in64_0, CS.Ok.new 1, rfl, rfl, show In64 1048576 from ⟨by decide, by decide⟩, hl⟩
theorem hst_held1 {l x : Int} (h : In64 (x - 0)) : (HSt l).held1 x = if x ≤ 1048576 then 0 else l := by
  unfold PP.held1
  show (if ((CS.new 0).tol 0 0).fresh x 1048576 = true then (0 : Int) else if (CS.new 1).fresh x 1048576 = true then 1 else l) = _
  rw [tol_fresh h]
  by_cases q : x ≤ 1048576
  · rw [if_pos q, decide_eq_true (by omega), if_pos rfl]
  · rw [if_neg q, decide_eq_false (by omega), if_neg (by decide)]
    rfl
section
variable {W : World} {p k0 k1 : Nat} {l x : Int}
theorem hst_pick (h : Pw W p k0 k1 (HSt l)) (hl : l = -1 ∨ l = 0 ∨ l = 1) (hx : In64 x) (h0 : In64 (x - 0)) {l' : Int} (he : (if x ≤ 1048576 then 0 else l) = l') :
    Calls Try.prog 18 #[.pointer (some ⟨p, 0, none⟩), .int .i64 x] W fun e w' => e = .returned (.int .i64 l') ∧ LeaveP p k0 k1 W (HSt l') w' := by
  have key := pick_any h (hst_ok hl) hx
  unfold PP.picked at key
  rw [hst_held1 h0, he] at key
  exact key
theorem hst_at (h : Pw W p k0 k1 (HSt 0)) (hx : In64 x) (h0 : In64 (x - 0)) (h1 : In64 (0 + (x - 0))) :
    Calls Try.prog 16 #[.pointer (some ⟨p, 0, none⟩), .int .i64 x] W fun e w' => e = .returned (.tuple #[.int .i64 (0 + (x - 0)), .bool true]) ∧ LeaveP p k0 k1 W (HSt 0) w' := by
  have key := pat_any h (hst_ok (.inr (.inl rfl))) hx
  have e : (HSt 0).atS x = HSt 0 := by
    show (HSt 0).picked x = _
    unfold PP.picked
    rw [hst_held1 h0]
    split <;> rfl
  obtain ⟨q1, q2⟩ := tol_time (s := CS.new 0) h0 h1
  unfold PP.atT PP.atB at key
  rw [e, if_pos (show (HSt 0).last = 0 from rfl), if_pos (show (HSt 0).last = 0 from rfl), show (HSt 0).a = (CS.new 0).tol 0 0 from rfl, q1, q2] at key
  exact key
end
def HoRel (w : World) (p k0 k1 : Nat) (v : Value) (wr : World) : Prop :=
  ∃ (k : Nat) (l : Int), v = .int .i64 (k : Int) ∧ k ≤ 40 ∧ (l = 0 ∧ 0 < k ∨ (l = -1 ∧ k = 0)) ∧ Pw wr p k0 k1 (HSt l) ∧ Below w.heap.size w wr
theorem at_loadS {ops : Array Oper} {rest : List Oper} {d : Option Tmp} {x : Operand} {t : TypeId} {s : String} {af : Array Edge} {gd : Option (Nat × Bool)} {a : Act} {w : World} {Q : Exit → Act → World → Prop}
    (h : wpList Try.prog ops Q (⟨d, .load 51 x, t, s, af, gd⟩ :: rest) a w) : wpList Try.prog ops Q (⟨d, .load 51 x, t, s, af, gd⟩ :: rest) a w := h
theorem at_storeS {ops : Array Oper} {rest : List Oper} {d : Option Tmp} {x y : Operand} {t : TypeId} {s : String} {af : Array Edge} {a : Act} {w : World} {Q : Exit → Act → World → Prop}
    (h : wpList Try.prog ops Q (⟨d, .store 51 x y, t, s, af, none⟩ :: rest) a w) : wpList Try.prog ops Q (⟨d, .store 51 x y, t, s, af, none⟩ :: rest) a w := h
set_option maxRecDepth 20000 in
set_option maxHeartbeats 8000000 in
theorem holds_any (v : Value) (n : Nat) (w : World) (hv : TArg w v n) : Calls Try.prog 5 #[v] w fun e w' => e = .returned (.bool true) ∧ Below w.heap.size w w' := by
  obtain ⟨pp, c, rfl⟩ := hv.slice
  have HV := Lib.hid hv
  have HH := Lib.hid (fun W => head21_ret W)
  have HN := Lib.hid (fun W => pnew_ok (x := 1048576) (by decide) W)
  have HT : Hid (∀ W p k0 k1, Pw W p k0 k1 (PP.new 1048576) → Calls Try.prog 32 #[.pointer (some ⟨p, 0, none⟩), .int .i64 0, .int .i64 0, .int .i64 0] W fun e w' => e = .returned (.bool true) ∧ LeaveP p k0 k1 W (HSt (-1)) w') := Lib.hid (fun W p k0 k1 h => told_zero h (PP.Ok.new ⟨by decide, by decide⟩) rfl in64_0)
  clear hv
  go_enter Try.func5, Try.ntmps5
  go_wp2_with (first
    | (go_at_call 13; (with_reducible refine (HH.out _).mono ?_); rintro e w0 ⟨rfl, hb⟩; have B0 := Lib.hid hb; clear hb)
    | (go_at_call 14; (with_reducible refine (HN.out _).mono ?_); rintro e w1 ⟨p, k0, k1, rfl, l0, l1, l2, h1, b1⟩; have H1 := Lib.hid h1; have B1 := Lib.hid (bTr B0.out b1); have HL := Lib.hid (show ∀ k, k ∈ [p, k0, k1] → w.heap.size ≤ k from by have := B0.out.size; simp; omega); clear h1 b1 l0 l1 l2)
    | (go_at_call 32; (with_reducible refine (HT.out _ _ _ _ H1.out).mono ?_); rintro e w2 ⟨rfl, h1, b1⟩; have H2 := Lib.hid h1; have B2 := Lib.hid (b1.into B1.out HL.out); clear h1 b1))
  go_loopw [5] (fun kv wr => HoRel w p k0 k1 kv wr) (fun kv _ => 40 - (intOf kv).toNat)
  case atStart => exact ⟨0, -1, rfl, by omega, .inr ⟨rfl, rfl⟩, H2.out, B2.out⟩
  case round =>
    clear H1 B0 B1 H2 B2 HN HT HH
    obtain ⟨k, l, rfl, hk, hl, hp, hb⟩ := hrel
    have HP := Lib.hid hp
    have HB := Lib.hid hb
    have hl3 : l = -1 ∨ l = 0 ∨ l = 1 := by omega
    clear hp hb
    have hwi : wrap64 ((k : Int) + 1) = (k : Int) + 1 := by unfold wrap64; omega
    rcases Nat.lt_or_ge k n with g1 | g1
    · have hd : decide ((k : Int) < (n : Int)) = true := decide_eq_true (by omega)
      rcases Nat.lt_or_ge k 40 with g2 | g2
      · have hd2 : decide ((k : Int) < 40) = true := decide_eq_true (by omega)
        obtain ⟨sb, o, F, rfl, hsb, hF⟩ := HV.out.at (by omega)
        obtain ⟨hok, hc⟩ := hF k g1
        have HC : Hid (wr.rangeAt sb (o + k * 22) (StC (F k)).toList) := Lib.hid (fun j x hx => (HB.out.cell (p := ⟨sb, o + k * 22 + j, none⟩) hsb).trans (hc j x hx))
        clear hF hok hc
        generalize F k = s at *
        rw [show StC s = #[.int .i64 s.k, .int .i64 s.mu.m.kind, .int .i64 s.mu.m.dom, .int .i64 s.mu.m.seq, .int .i64 s.mu.m.src, .int .i64 s.mu.m.port, .int .i64 s.mu.m.corr, .int .i64 s.mu.m.time, .int .i64 s.mu.m.tw, .int .i64 s.mu.m.tp, .int .i64 s.mu.m.rate, .int .i64 s.mu.m.one, .int .i64 s.mu.m.cls, .int .i64 s.mu.m.two, .int .i64 s.mu.m.id, .int .i64 s.mu.m.steps, .slice s.mu.a s.mu.n s.mu.c, .int .i64 s.at_, .int .i64 s.r, .int .i64 s.d, .bool s.on, .int .i64 s.n] from rfl] at HC
        obtain ⟨x, hx⟩ : ∃ x, s.at_ % 1099511627776 = x := ⟨_, rfl⟩
        have l40 := low40 s.at_
        rw [hx] at l40
        have x0 : 0 ≤ x := by omega
        have x1 : x ≤ 1099511627775 := by omega
        have ix : In64 x := ⟨by omega, by omega⟩
        have i0 : In64 (x - 0) := ⟨by omega, by omega⟩
        have i1 : In64 (0 + (x - 0)) := ⟨by omega, by omega⟩
        obtain ⟨y, hy⟩ : ∃ y, 0 + (x - 0) = y := ⟨_, rfl⟩
        have HAt : Hid (∀ W, Pw W p k0 k1 (HSt 0) → Calls Try.prog 16 #[.pointer (some ⟨p, 0, none⟩), .int .i64 x] W fun e w' => e = .returned (.tuple #[.int .i64 y, .bool true]) ∧ LeaveP p k0 k1 W (HSt 0) w') := Lib.hid (fun W h => by rw [← hy]; exact hst_at h ix i0 i1)
        have HNL := Lib.hid (show wr.heap.size ∉ [p, k0, k1] from by have := HP.out.lt; have := HP.out.c0.lt; have := HP.out.c1.lt; simp; omega)
        have HK0 := Lib.hid hk
        by_cases hxm : x ≤ 1048576
        · have d1 : decide (1048576 < x) = false := decide_eq_false (by omega)
          have HPk : Hid (∀ W, Pw W p k0 k1 (HSt l) → Calls Try.prog 18 #[.pointer (some ⟨p, 0, none⟩), .int .i64 x] W fun e w' => e = .returned (.int .i64 0) ∧ LeaveP p k0 k1 W (HSt 0) w') := Lib.hid (fun W h => hst_pick h hl3 ix i0 (if_pos hxm))
          rcases Nat.eq_zero_or_pos k with hk0 | hk0
          · have dk0 : ((k : Int) == 0) = true := by rw [beq_iff_eq]; omega
            clear x0 x1 ix i0 i1 hy hx hxm hl hl3 hk0
            go_wp2_with (first
              | ((with_reducible refine at_loadS ?_); refine wpList_loadW rfl _ _ rfl sb (o + k * 22) rfl #[.int .i64 s.k, .int .i64 s.mu.m.kind, .int .i64 s.mu.m.dom, .int .i64 s.mu.m.seq, .int .i64 s.mu.m.src, .int .i64 s.mu.m.port, .int .i64 s.mu.m.corr, .int .i64 s.mu.m.time, .int .i64 s.mu.m.tw, .int .i64 s.mu.m.tp, .int .i64 s.mu.m.rate, .int .i64 s.mu.m.one, .int .i64 s.mu.m.cls, .int .i64 s.mu.m.two, .int .i64 s.mu.m.id, .int .i64 s.mu.m.steps, .slice s.mu.a s.mu.n s.mu.c, .int .i64 s.at_, .int .i64 s.r, .int .i64 s.d, .bool s.on, .int .i64 s.n] _ HC.out Try.underlying51 rfl (by kernel_rfl) ?_)
              | ((with_reducible refine at_storeS ?_); refine wpList_storeNW rfl _ _ _ rfl wr.heap.size rfl #[.int .i64 s.k, .int .i64 s.mu.m.kind, .int .i64 s.mu.m.dom, .int .i64 s.mu.m.seq, .int .i64 s.mu.m.src, .int .i64 s.mu.m.port, .int .i64 s.mu.m.corr, .int .i64 s.mu.m.time, .int .i64 s.mu.m.tw, .int .i64 s.mu.m.tp, .int .i64 s.mu.m.rate, .int .i64 s.mu.m.one, .int .i64 s.mu.m.cls, .int .i64 s.mu.m.two, .int .i64 s.mu.m.id, .int .i64 s.mu.m.steps, .slice s.mu.a s.mu.n s.mu.c, .int .i64 s.at_, .int .i64 s.r, .int .i64 s.d, .bool s.on, .int .i64 s.n] _ _ rfl rfl (by simp [Value.oneCell']) (by kernel_rfl) rfl ?_)
              | (go_at_call 18; (with_reducible refine (HPk.out _ (HP.out.alloc _)).mono ?_); rintro e w5 ⟨rfl, h1, b1⟩; have H5 := Lib.hid h1; have B5 := Lib.hid (b1.into (bAl HB.out _) HL.out); have hr := (b1.block wr.heap.size (by simp) HNL.out).trans (heap_alloc_new wr _); have HR := Lib.hid hr; have c17 := cell_of_row w5 wr.heap.size 17 _ _ _ hr; clear hr; clear h1 b1)
              | (go_at_call 16; (with_reducible refine (HAt.out _ H5.out).mono ?_); rintro e w7 ⟨rfl, h1, b1⟩; have H7 := Lib.hid h1; have B7 := Lib.hid (b1.into B5.out HL.out); clear h1 b1))
            go_roundw
            case rel => exact ⟨k + 1, 0, by go_num, by omega, .inl ⟨rfl, by omega⟩, H7.out, B7.out⟩
            case measure => simp [intOf]; omega
          · have dk : ((k : Int) == 0) = false := by rw [beq_eq_false_iff_ne]; omega
            clear x0 x1 ix i0 i1 hy hx hxm hl hl3 hk0
            go_wp2_with (first
              | ((with_reducible refine at_loadS ?_); refine wpList_loadW rfl _ _ rfl sb (o + k * 22) rfl #[.int .i64 s.k, .int .i64 s.mu.m.kind, .int .i64 s.mu.m.dom, .int .i64 s.mu.m.seq, .int .i64 s.mu.m.src, .int .i64 s.mu.m.port, .int .i64 s.mu.m.corr, .int .i64 s.mu.m.time, .int .i64 s.mu.m.tw, .int .i64 s.mu.m.tp, .int .i64 s.mu.m.rate, .int .i64 s.mu.m.one, .int .i64 s.mu.m.cls, .int .i64 s.mu.m.two, .int .i64 s.mu.m.id, .int .i64 s.mu.m.steps, .slice s.mu.a s.mu.n s.mu.c, .int .i64 s.at_, .int .i64 s.r, .int .i64 s.d, .bool s.on, .int .i64 s.n] _ HC.out Try.underlying51 rfl (by kernel_rfl) ?_)
              | ((with_reducible refine at_storeS ?_); refine wpList_storeNW rfl _ _ _ rfl wr.heap.size rfl #[.int .i64 s.k, .int .i64 s.mu.m.kind, .int .i64 s.mu.m.dom, .int .i64 s.mu.m.seq, .int .i64 s.mu.m.src, .int .i64 s.mu.m.port, .int .i64 s.mu.m.corr, .int .i64 s.mu.m.time, .int .i64 s.mu.m.tw, .int .i64 s.mu.m.tp, .int .i64 s.mu.m.rate, .int .i64 s.mu.m.one, .int .i64 s.mu.m.cls, .int .i64 s.mu.m.two, .int .i64 s.mu.m.id, .int .i64 s.mu.m.steps, .slice s.mu.a s.mu.n s.mu.c, .int .i64 s.at_, .int .i64 s.r, .int .i64 s.d, .bool s.on, .int .i64 s.n] _ _ rfl rfl (by simp [Value.oneCell']) (by kernel_rfl) rfl ?_)
              | (go_at_call 18; (with_reducible refine (HPk.out _ (HP.out.alloc _)).mono ?_); rintro e w5 ⟨rfl, h1, b1⟩; have H5 := Lib.hid h1; have B5 := Lib.hid (b1.into (bAl HB.out _) HL.out); have hr := (b1.block wr.heap.size (by simp) HNL.out).trans (heap_alloc_new wr _); have HR := Lib.hid hr; have c17 := cell_of_row w5 wr.heap.size 17 _ _ _ hr; clear hr; clear h1 b1)
              | (go_at_call 16; (with_reducible refine (HAt.out _ H5.out).mono ?_); rintro e w7 ⟨rfl, h1, b1⟩; have H7 := Lib.hid h1; have B7 := Lib.hid (b1.into B5.out HL.out); clear h1 b1))
            go_roundw
            case rel => exact ⟨k + 1, 0, by go_num, by omega, .inl ⟨rfl, by omega⟩, H7.out, B7.out⟩
            case measure => simp [intOf]; omega
        · have d1 : decide (1048576 < x) = true := decide_eq_true (by omega)
          rcases Nat.eq_zero_or_pos k with hk0 | hk0
          · have dk0 : ((k : Int) == 0) = true := by rw [beq_iff_eq]; omega
            obtain rfl : l = -1 := by omega
            · have HPk : Hid (∀ W, Pw W p k0 k1 (HSt (-1)) → Calls Try.prog 18 #[.pointer (some ⟨p, 0, none⟩), .int .i64 x] W fun e w' => e = .returned (.int .i64 (-1)) ∧ LeaveP p k0 k1 W (HSt (-1)) w') := Lib.hid (fun W h => hst_pick h (by decide) ix i0 (if_neg hxm))
              have HPz : Hid (∀ W, Pw W p k0 k1 (HSt (-1)) → Calls Try.prog 18 #[.pointer (some ⟨p, 0, none⟩), .int .i64 0] W fun e w' => e = .returned (.int .i64 0) ∧ LeaveP p k0 k1 W (HSt 0) w') := Lib.hid (fun W h => hst_pick h (by decide) in64_0 ⟨by decide, by decide⟩ (if_pos (by decide)))
              clear x0 x1 ix i0 i1 hy hx hxm hl hl3 hk0
              go_wp2_with (first
                | ((with_reducible refine at_loadS ?_); refine wpList_loadW rfl _ _ rfl sb (o + k * 22) rfl #[.int .i64 s.k, .int .i64 s.mu.m.kind, .int .i64 s.mu.m.dom, .int .i64 s.mu.m.seq, .int .i64 s.mu.m.src, .int .i64 s.mu.m.port, .int .i64 s.mu.m.corr, .int .i64 s.mu.m.time, .int .i64 s.mu.m.tw, .int .i64 s.mu.m.tp, .int .i64 s.mu.m.rate, .int .i64 s.mu.m.one, .int .i64 s.mu.m.cls, .int .i64 s.mu.m.two, .int .i64 s.mu.m.id, .int .i64 s.mu.m.steps, .slice s.mu.a s.mu.n s.mu.c, .int .i64 s.at_, .int .i64 s.r, .int .i64 s.d, .bool s.on, .int .i64 s.n] _ HC.out Try.underlying51 rfl (by kernel_rfl) ?_)
                | ((with_reducible refine at_storeS ?_); refine wpList_storeNW rfl _ _ _ rfl wr.heap.size rfl #[.int .i64 s.k, .int .i64 s.mu.m.kind, .int .i64 s.mu.m.dom, .int .i64 s.mu.m.seq, .int .i64 s.mu.m.src, .int .i64 s.mu.m.port, .int .i64 s.mu.m.corr, .int .i64 s.mu.m.time, .int .i64 s.mu.m.tw, .int .i64 s.mu.m.tp, .int .i64 s.mu.m.rate, .int .i64 s.mu.m.one, .int .i64 s.mu.m.cls, .int .i64 s.mu.m.two, .int .i64 s.mu.m.id, .int .i64 s.mu.m.steps, .slice s.mu.a s.mu.n s.mu.c, .int .i64 s.at_, .int .i64 s.r, .int .i64 s.d, .bool s.on, .int .i64 s.n] _ _ rfl rfl (by simp [Value.oneCell']) (by kernel_rfl) rfl ?_)
                | (go_at_call 18; (with_reducible refine (HPk.out _ (HP.out.alloc _)).mono ?_); rintro e w5 ⟨rfl, h1, b1⟩; have H5 := Lib.hid h1; have B5 := Lib.hid (b1.into (bAl HB.out _) HL.out); have hr := (b1.block wr.heap.size (by simp) HNL.out).trans (heap_alloc_new wr _); have HR := Lib.hid hr; have c17 := cell_of_row w5 wr.heap.size 17 _ _ _ hr; clear hr; clear h1 b1)
                | (go_at_call 18; (with_reducible refine (HPz.out _ H5.out).mono ?_); rintro e w6 ⟨rfl, h1, b1⟩; have H6 := Lib.hid h1; have B6 := Lib.hid (b1.into B5.out HL.out); have hr6 := (b1.block wr.heap.size (lt_of_heap HR.out) HNL.out).trans HR.out; have c17' := cell_of_row w6 wr.heap.size 17 _ _ _ hr6; clear hr6 h1 b1)
                | (go_at_call 16; (with_reducible refine (HAt.out _ H6.out).mono ?_); rintro e w7 ⟨rfl, h1, b1⟩; have H7 := Lib.hid h1; have B7 := Lib.hid (b1.into B6.out HL.out); clear h1 b1))
              go_roundw
              case rel => exact ⟨k + 1, 0, by go_num, by omega, .inl ⟨rfl, by omega⟩, H7.out, B7.out⟩
              case measure => simp [intOf]; omega
          · obtain rfl : l = 0 := by omega
            have dk : ((k : Int) == 0) = false := by rw [beq_eq_false_iff_ne]; omega
            have HPk : Hid (∀ W, Pw W p k0 k1 (HSt 0) → Calls Try.prog 18 #[.pointer (some ⟨p, 0, none⟩), .int .i64 x] W fun e w' => e = .returned (.int .i64 0) ∧ LeaveP p k0 k1 W (HSt 0) w') := Lib.hid (fun W h => hst_pick h (by decide) ix i0 (if_neg hxm))
            clear x0 x1 ix i0 i1 hy hx hxm hl hl3 hk0
            go_wp2_with (first
              | ((with_reducible refine at_loadS ?_); refine wpList_loadW rfl _ _ rfl sb (o + k * 22) rfl #[.int .i64 s.k, .int .i64 s.mu.m.kind, .int .i64 s.mu.m.dom, .int .i64 s.mu.m.seq, .int .i64 s.mu.m.src, .int .i64 s.mu.m.port, .int .i64 s.mu.m.corr, .int .i64 s.mu.m.time, .int .i64 s.mu.m.tw, .int .i64 s.mu.m.tp, .int .i64 s.mu.m.rate, .int .i64 s.mu.m.one, .int .i64 s.mu.m.cls, .int .i64 s.mu.m.two, .int .i64 s.mu.m.id, .int .i64 s.mu.m.steps, .slice s.mu.a s.mu.n s.mu.c, .int .i64 s.at_, .int .i64 s.r, .int .i64 s.d, .bool s.on, .int .i64 s.n] _ HC.out Try.underlying51 rfl (by kernel_rfl) ?_)
              | ((with_reducible refine at_storeS ?_); refine wpList_storeNW rfl _ _ _ rfl wr.heap.size rfl #[.int .i64 s.k, .int .i64 s.mu.m.kind, .int .i64 s.mu.m.dom, .int .i64 s.mu.m.seq, .int .i64 s.mu.m.src, .int .i64 s.mu.m.port, .int .i64 s.mu.m.corr, .int .i64 s.mu.m.time, .int .i64 s.mu.m.tw, .int .i64 s.mu.m.tp, .int .i64 s.mu.m.rate, .int .i64 s.mu.m.one, .int .i64 s.mu.m.cls, .int .i64 s.mu.m.two, .int .i64 s.mu.m.id, .int .i64 s.mu.m.steps, .slice s.mu.a s.mu.n s.mu.c, .int .i64 s.at_, .int .i64 s.r, .int .i64 s.d, .bool s.on, .int .i64 s.n] _ _ rfl rfl (by simp [Value.oneCell']) (by kernel_rfl) rfl ?_)
              | (go_at_call 18; (with_reducible refine (HPk.out _ (HP.out.alloc _)).mono ?_); rintro e w5 ⟨rfl, h1, b1⟩; have H5 := Lib.hid h1; have B5 := Lib.hid (b1.into (bAl HB.out _) HL.out); have hr := (b1.block wr.heap.size (by simp) HNL.out).trans (heap_alloc_new wr _); have HR := Lib.hid hr; have c17 := cell_of_row w5 wr.heap.size 17 _ _ _ hr; clear hr; clear h1 b1)
              | (go_at_call 16; (with_reducible refine (HAt.out _ H5.out).mono ?_); rintro e w7 ⟨rfl, h1, b1⟩; have H7 := Lib.hid h1; have B7 := Lib.hid (b1.into B5.out HL.out); clear h1 b1))
            go_roundw
            case rel => exact ⟨k + 1, 0, by go_num, by omega, .inl ⟨rfl, by omega⟩, H7.out, B7.out⟩
            case measure => simp [intOf]; omega
      · have hd2 : decide ((k : Int) < 40) = false := decide_eq_false (by omega)
        go_wp2_with fail
        go_ret
        exact ⟨rfl, HB.out⟩
    · have hd : decide ((k : Int) < (n : Int)) = false := decide_eq_false (by omega)
      go_wp2_with fail
      go_ret
      exact ⟨rfl, HB.out⟩

theorem pairHolds_holds : Rows.PairHoldsSaid := pairHolds_of (fun v n w h => holds_any v n w h)

end Go.Proofs.Ytfeoppbincldfaa
