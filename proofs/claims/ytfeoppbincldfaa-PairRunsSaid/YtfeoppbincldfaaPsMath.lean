/- Rates and times: what turns nothing. The head of package sync's laws. -/
import Derived.Test.YtfeoppbincldfaaPsTell
import Derived.Test.YtfeoppbincldfaaPaMath
namespace Go.Proofs.Ytfeoppbincldfaa
open Go.RowKit Go.Joins

theorem goes_none (x c : Int) (b : Bool) (round : Int) : goes x 0 c b round = false := by unfold goes; rw [if_pos rfl]

/-- A product parted by the same. -/
theorem md_self {a c : Int} (ha : In64 a) (hc : 0 < c) : mdV a c c 2 = a ∧ mdE a c c 2 = 0 := by
  unfold In64 at ha
  have hn : neg a c c = decide (a < 0) := by
    unfold neg
    rw [decide_eq_false (show ¬ c < 0 by omega)]; simp
  have h1 : ¬ ((2 : Int) < 0 ∨ (2 : Int) < 2) := by omega
  have h2 : ¬ c = 0 := by omega
  have hQ : mdQ a c c 2 = a.natAbs := by
    unfold mdQ mdN
    rw [Nat.mul_mod_left, show (((0 : Nat) : Int)) = 0 from rfl, goes_none, Nat.mul_div_cancel _ (by omega)]
    simp
  unfold mdV mdE mdOver
  rw [if_neg h1, if_neg h2, if_neg h1, if_neg h2, hn, hQ]
  by_cases hneg : a < 0
  · rw [decide_eq_true hneg, if_pos rfl, decide_eq_false (by omega)]; simp; omega
  · rw [decide_eq_false hneg]; simp; omega
theorem md_comm (a b c round : Int) : mdV a b c round = mdV b a c round ∧ mdE a b c round = mdE b a c round := by
  have hn : neg a b c = neg b a c := by
    unfold neg
    cases decide (a < 0) <;> cases decide (b < 0) <;> rfl
  have hN : mdN a b = mdN b a := Nat.mul_comm _ _
  have hQ : mdQ a b c round = mdQ b a c round := by unfold mdQ; rw [hN, hn]
  have hO : mdOver a b c round = mdOver b a c round := by unfold mdOver; rw [hn, hQ]
  unfold mdV mdE
  rw [hO, hQ, hn]
  exact ⟨rfl, rfl⟩

theorem mul_one' {a : Int} (h : In64 a) : rE a 2199023255552 2199023255552 = 0 ∧ rV a 2199023255552 2199023255552 = a := ⟨(md_self h (by decide)).2, (md_self h (by decide)).1⟩
theorem one_by {a : Int} (h : In64 a) : rE 2199023255552 a 2199023255552 = 0 ∧ rV 2199023255552 a 2199023255552 = a :=
  ⟨(md_comm 2199023255552 a 2199023255552 2).2.trans (md_self h (by decide)).2, (md_comm 2199023255552 a 2199023255552 2).1.trans (md_self h (by decide)).1⟩
theorem by_zero {r : Int} (h : 0 ≤ r) : rE r 0 2199023255552 = 0 ∧ rV r 0 2199023255552 = 0 := by
  obtain ⟨e, q0, q1, q2⟩ := rv_near (a := r) (b := 0) (c := 2199023255552) h (Int.le_refl _) (by decide) (by rw [Int.mul_zero]; decide)
  rw [Int.mul_zero] at q1 q2
  exact ⟨e, by omega⟩
/-- A clock that was told. -/
def CS.heard (dom q src came t r : Int) : CS := ⟨dom, false, true, came, t, r, false, q, src, came⟩
theorem told_heard (dom q src at_ t r : Int) : ((CS.new dom).synced q src at_).told t r = CS.heard dom q src at_ t r := rfl
theorem wpList_buildGG {ops : Array Oper} {rest : List Oper} {o : Oper} {a : Act} {w : World} {Q : Exit → Act → World → Prop} (hw : Region.wanted o (yielded ops a.tmps) = true) (t : TypeId) (ps : Array (Nat × Operand)) (ho : o.op = .build t ps) (cs : Array Value)
    (hb : Try.prog.built t (ps.map fun (i, x) => (i, a.eval x)).toList = some cs) (h : wpList Try.prog ops Q rest (a.put o.dst (.agg cs)) w) : wpList Try.prog ops Q (o :: rest) a w :=
  BigFrame.wpList_want hw fun _ hK => wp_build t ps ho (by rw [hb]; rfl) (hK _ _ (by rw [hb]; exact h))
theorem at_b4 (o0 o1 o2 o3 : Operand) {ops : Array Oper} {rest : List Oper} {d : Option Tmp} {t : TypeId} {s : String} {af : Array Edge} {gd : Option (Nat × Bool)} {a : Act} {w : World} {Q : Exit → Act → World → Prop}
    (h : wpList Try.prog ops Q (⟨d, .build 37 #[(0, o0), (1, o1), (2, o2), (3, o3)], t, s, af, gd⟩ :: rest) a w) : wpList Try.prog ops Q (⟨d, .build 37 #[(0, o0), (1, o1), (2, o2), (3, o3)], t, s, af, gd⟩ :: rest) a w := h
theorem at_b3 (o0 o1 o2 : Operand) {ops : Array Oper} {rest : List Oper} {d : Option Tmp} {t : TypeId} {s : String} {af : Array Edge} {gd : Option (Nat × Bool)} {a : Act} {w : World} {Q : Exit → Act → World → Prop}
    (h : wpList Try.prog ops Q (⟨d, .build 37 #[(0, o0), (2, o1), (3, o2)], t, s, af, gd⟩ :: rest) a w) : wpList Try.prog ops Q (⟨d, .build 37 #[(0, o0), (2, o1), (3, o2)], t, s, af, gd⟩ :: rest) a w := h
theorem at_bP (o0 o1 o2 o3 : Operand) {ops : Array Oper} {rest : List Oper} {d : Option Tmp} {t : TypeId} {s : String} {af : Array Edge} {gd : Option (Nat × Bool)} {a : Act} {w : World} {Q : Exit → Act → World → Prop}
    (h : wpList Try.prog ops Q (⟨d, .build 37 #[(0, o0), (2, o1), (3, o2), (4, o3)], t, s, af, gd⟩ :: rest) a w) : wpList Try.prog ops Q (⟨d, .build 37 #[(0, o0), (2, o1), (3, o2), (4, o3)], t, s, af, gd⟩ :: rest) a w := h
theorem at_f6 (o0 o1 o2 o3 o4 o5 : Operand) {ops : Array Oper} {rest : List Oper} {d : Option Tmp} {t : TypeId} {s : String} {af : Array Edge} {gd : Option (Nat × Bool)} {a : Act} {w : World} {Q : Exit → Act → World → Prop}
    (h : wpList Try.prog ops Q (⟨d, .build 37 #[(0, o0), (1, o1), (2, o2), (3, o3), (6, o4), (9, o5)], t, s, af, gd⟩ :: rest) a w) : wpList Try.prog ops Q (⟨d, .build 37 #[(0, o0), (1, o1), (2, o2), (3, o3), (6, o4), (9, o5)], t, s, af, gd⟩ :: rest) a w := h
theorem at_f5 (o0 o1 o2 o3 o4 : Operand) {ops : Array Oper} {rest : List Oper} {d : Option Tmp} {t : TypeId} {s : String} {af : Array Edge} {gd : Option (Nat × Bool)} {a : Act} {w : World} {Q : Exit → Act → World → Prop}
    (h : wpList Try.prog ops Q (⟨d, .build 37 #[(0, o0), (2, o1), (3, o2), (6, o3), (9, o4)], t, s, af, gd⟩ :: rest) a w) : wpList Try.prog ops Q (⟨d, .build 37 #[(0, o0), (2, o1), (3, o2), (6, o3), (9, o4)], t, s, af, gd⟩ :: rest) a w := h
theorem at_f7 (o0 o1 o2 o3 o4 o5 o6 : Operand) {ops : Array Oper} {rest : List Oper} {d : Option Tmp} {t : TypeId} {s : String} {af : Array Edge} {gd : Option (Nat × Bool)} {a : Act} {w : World} {Q : Exit → Act → World → Prop}
    (h : wpList Try.prog ops Q (⟨d, .build 37 #[(0, o0), (1, o1), (2, o2), (3, o3), (6, o4), (5, o5), (9, o6)], t, s, af, gd⟩ :: rest) a w) : wpList Try.prog ops Q (⟨d, .build 37 #[(0, o0), (1, o1), (2, o2), (3, o3), (6, o4), (5, o5), (9, o6)], t, s, af, gd⟩ :: rest) a w := h
theorem Try.bSyn4 (dom q src : Int) : Try.prog.built 37 [(0, .int .i64 0), (1, .int .i64 dom), (2, .int .i64 q), (3, .int .i64 src)] = some (MC (SynM dom q src 0) (.slice none 0 0)) := by kernel_rfl
theorem Try.bSyn3 (q src : Int) : Try.prog.built 37 [(0, .int .i64 0), (2, .int .i64 q), (3, .int .i64 src)] = some (MC (SynM 0 q src 0) (.slice none 0 0)) := by kernel_rfl
theorem Try.bSynP (q src port : Int) : Try.prog.built 37 [(0, .int .i64 0), (2, .int .i64 q), (3, .int .i64 src), (4, .int .i64 port)] = some (MC (SynM 0 q src port) (.slice none 0 0)) := by kernel_rfl
theorem Try.bFol6 (dom q src time rate : Int) : Try.prog.built 37 [(0, .int .i64 8), (1, .int .i64 dom), (2, .int .i64 q), (3, .int .i64 src), (6, .int .i64 time), (9, .int .i64 rate)] = some (MC (FolM dom q src 0 0 time rate) (.slice none 0 0)) := by kernel_rfl
theorem Try.bFol5 (q src time rate : Int) : Try.prog.built 37 [(0, .int .i64 8), (2, .int .i64 q), (3, .int .i64 src), (6, .int .i64 time), (9, .int .i64 rate)] = some (MC (FolM 0 q src 0 0 time rate) (.slice none 0 0)) := by kernel_rfl
theorem Try.bFol7 (dom q src corr time rate : Int) : Try.prog.built 37 [(0, .int .i64 8), (1, .int .i64 dom), (2, .int .i64 q), (3, .int .i64 src), (6, .int .i64 time), (5, .int .i64 corr), (9, .int .i64 rate)] = some (MC (FolM dom q src 0 corr time rate) (.slice none 0 0)) := by kernel_rfl
/-- A new clock hears a Sync. -/
theorem new_sync {w : World} {b : Nat} {dom q src port at_ : Int} (h : Ck w b (CS.new dom)) (hd : Hd dom q src port) : Calls Try.prog 28 #[.pointer (some ⟨b, 0, none⟩), .agg (MC (SynM dom q src port) (.slice none 0 0)), .int .i64 at_] w fun e w' => e = .returned (.int .i64 0) ∧ LeaveC b w ((CS.new dom).synced q src at_) w' :=
  sync_ok h rfl (SynM dom q src port) _ at_ rfl rfl (syn_to w hd)
/-- And its Follow. -/
theorem new_follow {w : World} {b : Nat} {dom q src port at_ corr time rate delay ratio r d t : Int} (h : Ck w b ((CS.new dom).synced q src at_)) (hd : Hd dom q src port) (hf : FolOk (FolM dom q src port corr time rate) delay ratio r d t) : Calls Try.prog 29 #[.pointer (some ⟨b, 0, none⟩), .agg (MC (FolM dom q src port corr time rate) (.slice none 0 0)), .int .i64 delay, .int .i64 ratio] w fun e w' => e = .returned (.int .i64 0) ∧ LeaveC b w (CS.heard dom q src at_ t r) w' :=
  follow_ok h rfl rfl rfl rfl rfl rfl rfl (fol_to w hd hf.arr.ic hf.arr.ti hf.im) hf
theorem hd_of {dom q src port : Int} (h : 0 ≤ dom ∧ dom ≤ 127 ∧ 0 ≤ q ∧ q ≤ 65535 ∧ 0 ≤ src ∧ src ≤ 281474976710655 ∧ 0 ≤ port ∧ port ≤ 65535) : Hd dom q src port := by
  obtain ⟨a, b, c, d, e, f, g, i⟩ := h
  exact ⟨a, b, c, d, e, f, g, i⟩
end Go.Proofs.Ytfeoppbincldfaa
