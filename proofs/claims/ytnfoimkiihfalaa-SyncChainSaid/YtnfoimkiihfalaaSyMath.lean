/- Rates and times: what turns nothing. The head of package sync's laws. -/
import Derived.Test.YtnfoimkiihfalaaSyTell
import Derived.Test.YtnfoimkiihfalaaPeMath
namespace Go.Proofs.Ytnfoimkiihfalaa
open Go.RowKit Go.Joins

theorem goes_none (x c : Int) (b : Bool) (round : Int) : goes x 0 c b round = false := by unfold goes; rw [if_pos rfl]

/-- A product parted by the same. -/
theorem md_self {a c : Int} (ha : In64 a) (hc : 0 < c) : mdV a c c 2 = a ∧ mdE a c c 2 = 0 := by
  unfold In64 at ha
  have hn : neg a c c = decide (a < 0) := by
    unfold neg
    rw [decide_eq_false (show ¬ c < 0 by omega)]; simp
  have h1 : ¬ ((2 : Int) < 0 ∨ (2 : Int) < 2) := by omega
  have h2 : ¬ c = 0 := by omega
  have hQ : mdQ a c c 2 = a.natAbs := by
    unfold mdQ mdN
    rw [Nat.mul_mod_left, show (((0 : Nat) : Int)) = 0 from rfl, goes_none, Nat.mul_div_cancel _ (by omega)]
    simp
  unfold mdV mdE mdOver
  rw [if_neg h1, if_neg h2, if_neg h1, if_neg h2, hn, hQ]
  by_cases hneg : a < 0
  · rw [decide_eq_true hneg, if_pos rfl, decide_eq_false (by omega)]; simp; omega
  · rw [decide_eq_false hneg]; simp; omega
theorem md_comm (a b c round : Int) : mdV a b c round = mdV b a c round ∧ mdE a b c round = mdE b a c round := by
  have hn : neg a b c = neg b a c := by
    unfold neg
    cases decide (a < 0) <;> cases decide (b < 0) <;> rfl
  have hN : mdN a b = mdN b a := Nat.mul_comm _ _
  have hQ : mdQ a b c round = mdQ b a c round := by unfold mdQ; rw [hN, hn]
  have hO : mdOver a b c round = mdOver b a c round := by unfold mdOver; rw [hn, hQ]
  unfold mdV mdE
  rw [hO, hQ, hn]
  exact ⟨rfl, rfl⟩

theorem mul_one' {a : Int} (h : In64 a) : rE a 2199023255552 2199023255552 = 0 ∧ rV a 2199023255552 2199023255552 = a := ⟨(md_self h (by decide)).2, (md_self h (by decide)).1⟩
theorem one_by {a : Int} (h : In64 a) : rE 2199023255552 a 2199023255552 = 0 ∧ rV 2199023255552 a 2199023255552 = a :=
  ⟨(md_comm 2199023255552 a 2199023255552 2).2.trans (md_self h (by decide)).2, (md_comm 2199023255552 a 2199023255552 2).1.trans (md_self h (by decide)).1⟩
theorem by_zero {r : Int} (h : 0 ≤ r) : rE r 0 2199023255552 = 0 ∧ rV r 0 2199023255552 = 0 := by
  obtain ⟨e, q0, q1, q2⟩ := rv_near (a := r) (b := 0) (c := 2199023255552) h (Int.le_refl _) (by decide) (by rw [Int.mul_zero]; decide)
  rw [Int.mul_zero] at q1 q2
  exact ⟨e, by omega⟩
/-- A clock that was told. -/
def CS.heard (dom q src came t r : Int) : CS := ⟨dom, false, true, came, t, r, false, q, src, came⟩
theorem told_heard (dom q src at_ t r : Int) : ((CS.new dom).synced q src at_).told t r = CS.heard dom q src at_ t r := rfl
theorem wpList_buildGG {ops : Array Oper} {rest : List Oper} {o : Oper} {a : Act} {w : World} {Q : Exit → Act → World → Prop} (hw : Region.wanted o (yielded ops a.tmps) = true) (t : TypeId) (ps : Array (Nat × Operand)) (ho : o.op = .build t ps) (cs : Array Value)
    (hb : Try.prog.built t (ps.map fun (i, x) => (i, a.eval x)).toList = some cs) (h : wpList Try.prog ops Q rest (a.put o.dst (.agg cs)) w) : wpList Try.prog ops Q (o :: rest) a w :=
  BigFrame.wpList_want hw fun _ hK => wp_build t ps ho (by rw [hb]; rfl) (hK _ _ (by rw [hb]; exact h))
theorem at_b4 (o0 o1 o2 o3 : Operand) {ops : Array Oper} {rest : List Oper} {d : Option Tmp} {t : TypeId} {s : String} {af : Array Edge} {gd : Option (Nat × Bool)} {a : Act} {w : World} {Q : Exit → Act → World → Prop}
    (h : wpList Try.prog ops Q (⟨d, .build 30 #[(0, o0), (1, o1), (2, o2), (3, o3)], t, s, af, gd⟩ :: rest) a w) : wpList Try.prog ops Q (⟨d, .build 30 #[(0, o0), (1, o1), (2, o2), (3, o3)], t, s, af, gd⟩ :: rest) a w := h
theorem at_b3 (o0 o1 o2 : Operand) {ops : Array Oper} {rest : List Oper} {d : Option Tmp} {t : TypeId} {s : String} {af : Array Edge} {gd : Option (Nat × Bool)} {a : Act} {w : World} {Q : Exit → Act → World → Prop}
    (h : wpList Try.prog ops Q (⟨d, .build 30 #[(0, o0), (2, o1), (3, o2)], t, s, af, gd⟩ :: rest) a w) : wpList Try.prog ops Q (⟨d, .build 30 #[(0, o0), (2, o1), (3, o2)], t, s, af, gd⟩ :: rest) a w := h
theorem at_bP (o0 o1 o2 o3 : Operand) {ops : Array Oper} {rest : List Oper} {d : Option Tmp} {t : TypeId} {s : String} {af : Array Edge} {gd : Option (Nat × Bool)} {a : Act} {w : World} {Q : Exit → Act → World → Prop}
    (h : wpList Try.prog ops Q (⟨d, .build 30 #[(0, o0), (2, o1), (3, o2), (4, o3)], t, s, af, gd⟩ :: rest) a w) : wpList Try.prog ops Q (⟨d, .build 30 #[(0, o0), (2, o1), (3, o2), (4, o3)], t, s, af, gd⟩ :: rest) a w := h
theorem at_f6 (o0 o1 o2 o3 o4 o5 : Operand) {ops : Array Oper} {rest : List Oper} {d : Option Tmp} {t : TypeId} {s : String} {af : Array Edge} {gd : Option (Nat × Bool)} {a : Act} {w : World} {Q : Exit → Act → World → Prop}
    (h : wpList Try.prog ops Q (⟨d, .build 30 #[(0, o0), (1, o1), (2, o2), (3, o3), (6, o4), (9, o5)], t, s, af, gd⟩ :: rest) a w) : wpList Try.prog ops Q (⟨d, .build 30 #[(0, o0), (1, o1), (2, o2), (3, o3), (6, o4), (9, o5)], t, s, af, gd⟩ :: rest) a w := h
theorem at_f5 (o0 o1 o2 o3 o4 : Operand) {ops : Array Oper} {rest : List Oper} {d : Option Tmp} {t : TypeId} {s : String} {af : Array Edge} {gd : Option (Nat × Bool)} {a : Act} {w : World} {Q : Exit → Act → World → Prop}
    (h : wpList Try.prog ops Q (⟨d, .build 30 #[(0, o0), (2, o1), (3, o2), (6, o3), (9, o4)], t, s, af, gd⟩ :: rest) a w) : wpList Try.prog ops Q (⟨d, .build 30 #[(0, o0), (2, o1), (3, o2), (6, o3), (9, o4)], t, s, af, gd⟩ :: rest) a w := h
theorem at_f7 (o0 o1 o2 o3 o4 o5 o6 : Operand) {ops : Array Oper} {rest : List Oper} {d : Option Tmp} {t : TypeId} {s : String} {af : Array Edge} {gd : Option (Nat × Bool)} {a : Act} {w : World} {Q : Exit → Act → World → Prop}
    (h : wpList Try.prog ops Q (⟨d, .build 30 #[(0, o0), (1, o1), (2, o2), (3, o3), (6, o4), (5, o5), (9, o6)], t, s, af, gd⟩ :: rest) a w) : wpList Try.prog ops Q (⟨d, .build 30 #[(0, o0), (1, o1), (2, o2), (3, o3), (6, o4), (5, o5), (9, o6)], t, s, af, gd⟩ :: rest) a w := h
theorem Try.bSyn4 (dom q src : Int) : Try.prog.built 30 [(0, .int .i64 0), (1, .int .i64 dom), (2, .int .i64 q), (3, .int .i64 src)] = some (MC (SynM dom q src 0) (.slice none 0 0)) := by kernel_rfl
theorem Try.bSyn3 (q src : Int) : Try.prog.built 30 [(0, .int .i64 0), (2, .int .i64 q), (3, .int .i64 src)] = some (MC (SynM 0 q src 0) (.slice none 0 0)) := by kernel_rfl
theorem Try.bSynP (q src port : Int) : Try.prog.built 30 [(0, .int .i64 0), (2, .int .i64 q), (3, .int .i64 src), (4, .int .i64 port)] = some (MC (SynM 0 q src port) (.slice none 0 0)) := by kernel_rfl
theorem Try.bFol6 (dom q src time rate : Int) : Try.prog.built 30 [(0, .int .i64 8), (1, .int .i64 dom), (2, .int .i64 q), (3, .int .i64 src), (6, .int .i64 time), (9, .int .i64 rate)] = some (MC (FolM dom q src 0 0 time rate) (.slice none 0 0)) := by kernel_rfl
theorem Try.bFol5 (q src time rate : Int) : Try.prog.built 30 [(0, .int .i64 8), (2, .int .i64 q), (3, .int .i64 src), (6, .int .i64 time), (9, .int .i64 rate)] = some (MC (FolM 0 q src 0 0 time rate) (.slice none 0 0)) := by kernel_rfl
theorem Try.bFol7 (dom q src corr time rate : Int) : Try.prog.built 30 [(0, .int .i64 8), (1, .int .i64 dom), (2, .int .i64 q), (3, .int .i64 src), (6, .int .i64 time), (5, .int .i64 corr), (9, .int .i64 rate)] = some (MC (FolM dom q src 0 corr time rate) (.slice none 0 0)) := by kernel_rfl
/-- A new clock hears a Sync. -/
theorem new_sync {w : World} {b : Nat} {dom q src port at_ : Int} (h : Ck w b (CS.new dom)) (hd : Hd dom q src port) : Calls Try.prog 35 #[.pointer (some ⟨b, 0, none⟩), .agg (MC (SynM dom q src port) (.slice none 0 0)), .int .i64 at_] w fun e w' => e = .returned (.int .i64 0) ∧ LeaveC b w ((CS.new dom).synced q src at_) w' :=
  sync_ok h rfl (SynM dom q src port) _ at_ rfl rfl (syn_to w hd)
/-- And its Follow. -/
theorem new_follow {w : World} {b : Nat} {dom q src port at_ corr time rate delay ratio r d t : Int} (h : Ck w b ((CS.new dom).synced q src at_)) (hd : Hd dom q src port) (hf : FolOk (FolM dom q src port corr time rate) delay ratio r d t) : Calls Try.prog 37 #[.pointer (some ⟨b, 0, none⟩), .agg (MC (FolM dom q src port corr time rate) (.slice none 0 0)), .int .i64 delay, .int .i64 ratio] w fun e w' => e = .returned (.int .i64 0) ∧ LeaveC b w (CS.heard dom q src at_ t r) w' :=
  follow_ok h rfl rfl rfl rfl rfl rfl rfl (fol_to w hd hf.arr.ic hf.arr.ti hf.im) hf
theorem hd_of {dom q src port : Int} (h : 0 ≤ dom ∧ dom ≤ 127 ∧ 0 ≤ q ∧ q ≤ 65535 ∧ 0 ≤ src ∧ src ≤ 281474976710655 ∧ 0 ≤ port ∧ port ≤ 65535) : Hd dom q src port := by
  obtain ⟨a, b, c, d, e, f, g, i⟩ := h
  exact ⟨a, b, c, d, e, f, g, i⟩
set_option maxRecDepth 20000 in
theorem folH : FolOk (FolM 1 4 9 0 0 458752000 2199023255552) 3276800 2199023255552 2199023255552 3276800 462028800 :=
  ⟨⟨by decide, by decide⟩, ⟨by decide, by decide⟩, by decide +kernel, by decide +kernel, ⟨by decide, by decide⟩, ⟨⟨by decide, by decide⟩, ⟨by decide, by decide⟩, ⟨by decide, by decide⟩, ⟨by decide, by decide⟩, ⟨by decide, by decide⟩, by decide +kernel, by decide +kernel, ⟨by decide, by decide⟩, ⟨by decide, by decide⟩, by decide⟩⟩
set_option maxRecDepth 20000 in
theorem atH : AtOk (CS.heard 1 4 9 65536000 462028800 2199023255552) 98304000 32768000 494796800 :=
  ⟨⟨by decide, by decide⟩, ⟨by decide, by decide⟩, ⟨by decide, by decide⟩, ⟨by decide, by decide⟩, by decide +kernel, by decide +kernel, ⟨by decide, by decide⟩, ⟨by decide, by decide⟩, ⟨by decide, by decide⟩, by decide⟩
set_option maxRecDepth 20000 in
set_option maxHeartbeats 2000000 in
theorem headS_ret (w : World) : Calls Try.prog 29 #[] w fun e w' => e = .returned (.bool true) ∧ Below w.heap.size w w' := by
  have HN := Lib.hid (fun W => newc_any 1 W)
  have HD := Lib.hid (hd_of (dom := 1) (q := 4) (src := 9) (port := 0) (by decide))
  go_enter Try.func29, Try.ntmps29
  go_wp2_with (first
    | (go_at_call 32; (with_reducible refine (HN.out _).mono ?_); rintro e w1 ⟨b, rfl, hlo, hc, hb⟩; have HC1 := Lib.hid hc; have HB1 := Lib.hid hb; have HL := Lib.hid hlo; clear hc hb hlo)
    | ((with_reducible refine at_b4 _ _ _ _ ?_); refine wpList_buildGG (by rfl) _ _ rfl (MC (SynM 1 4 9 0) (.slice none 0 0)) (by simp only [List.map_toArray, List.map_cons, List.map_nil]; exact Try.bSyn4 1 4 9) ?_)
    | (go_at_call 35; (with_reducible refine (new_sync HC1.out HD.out).mono ?_); rintro e w2 ⟨rfl, hc, hb⟩; have HC2 := Lib.hid hc; have HB2 := Lib.hid (hb.into HB1.out HL.out); clear hc hb)
    | ((with_reducible refine at_f6 _ _ _ _ _ _ ?_); refine wpList_buildGG (by rfl) _ _ rfl (MC (FolM 1 4 9 0 0 458752000 2199023255552) (.slice none 0 0)) (by simp only [List.map_toArray, List.map_cons, List.map_nil]; exact Try.bFol6 1 4 9 458752000 2199023255552) ?_)
    | (go_at_call 37; (with_reducible refine (new_follow HC2.out HD.out folH).mono ?_); rintro e w3 ⟨rfl, hc, hb⟩; have HC3 := Lib.hid hc; have HB3 := Lib.hid (hb.into HB2.out HL.out); clear hc hb)
    | (go_at_call 38; (with_reducible refine (at_ok HC3.out rfl atH).mono ?_); rintro e w4 ⟨rfl, hb⟩; have HB4 := Lib.hid (bTr HB3.out hb); clear hb))
  go_ret
  exact ⟨rfl, HB4.out⟩

end Go.Proofs.Ytnfoimkiihfalaa
