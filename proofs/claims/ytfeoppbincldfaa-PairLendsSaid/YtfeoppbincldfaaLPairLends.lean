/- PairLends: who is the second domain's best clock tells the first one's time there, and goes on from it when it is told no more; for all arguments. -/
import Derived.Test.YtfeoppbincldfaaFPairLends
import Derived.Test.YtfeoppbincldfaaPrLaw
import Derived.Test.YtfeoppbincldfaaLow
namespace Go.Proofs.Ytfeoppbincldfaa
open Go.RowKit Go.Joins

theorem low32 (x : Int) : bits .and .i64 x 4294967295 = x % 4294967296 := and_low x 32 (by omega)
theorem low40 (x : Int) : bits .and .i64 x 1099511627775 = x % 1099511627776 := and_low x 40 (by omega)
def ownB : CS := ⟨1, true, false, 0, 0, 2199023255552, false, 0, 0, 0⟩
def lentB (now u : Int) : CS := ⟨1, true, true, now, u, 2199023255552, false, 0, 0, 0⟩
def S0 : PP := ⟨CS.new 0, ownB, 8589934592, true, -1⟩
def S1 (at_ t : Int) : PP := ⟨(CS.new 0).tol at_ t, ownB, 8589934592, true, -1⟩
def S2 (at_ t now u l : Int) : PP := ⟨(CS.new 0).tol at_ t, lentB now u, 8589934592, true, l⟩
theorem rooted_new : (PP.new 8589934592).rooted 1 true 0 = S0 := rfl
theorem lent_time {now u x : Int} (h1 : In64 (x - now)) (h2 : In64 (u + (x - now))) : (lentB now u).time x = u + (x - now) ∧ (lentB now u).tells x = true := by
  obtain ⟨o1, o2⟩ := one_by h1
  have hb : (lentB now u).tells x = true := by
    unfold CS.tells
    rw [if_pos (show (lentB now u).known = true from rfl)]
    show (InB (x - now) && ((rE 2199023255552 (x - now) 2199023255552 == 0) && InB (u + rV 2199023255552 (x - now) 2199023255552))) = true
    rw [o1, o2, inB_of h1, inB_of h2]
    rfl
  refine ⟨?_, hb⟩
  unfold CS.time
  rw [if_pos (show (lentB now u).known = true from rfl), if_pos hb]
  show u + rV 2199023255552 (x - now) 2199023255552 = _
  rw [o2]
set_option maxRecDepth 20000 in
set_option maxHeartbeats 4000000 in
theorem lends_any (x0 x1 x2 : Int) (w : World) : Calls Try.prog 4 #[.int .i64 x0, .int .i64 x1, .int .i64 x2] w fun e w' => e = .returned (.bool true) ∧ Below w.heap.size w w' := by
  have HH := Lib.hid (fun W => head21_ret W)
  have HN := Lib.hid (fun W => pnew_ok (x := 8589934592) (by decide) W)
  have l0 := low32 x0
  have l1 := low40 x1
  have l2 := low32 x2
  obtain ⟨a, ha⟩ : ∃ a, x0 % 4294967296 = a := ⟨_, rfl⟩
  obtain ⟨t, ht⟩ : ∃ a, x1 % 1099511627776 = a := ⟨_, rfl⟩
  obtain ⟨la, hla⟩ : ∃ a, x2 % 4294967296 = a := ⟨_, rfl⟩
  have a0 : 0 ≤ a := by omega
  have a1 : a ≤ 4294967295 := by omega
  have t0 : 0 ≤ t := by omega
  have t1 : t ≤ 1099511627775 := by omega
  have g0 : 0 ≤ la := by omega
  have g1 : la ≤ 4294967295 := by omega
  rw [ha] at l0
  rw [ht] at l1
  rw [hla] at l2
  have i64 : ∀ x : Int, -9000000000000000000 ≤ x → x ≤ 9000000000000000000 → In64 x := fun x h1 h2 => ⟨by omega, by omega⟩
  obtain ⟨now, hnow⟩ : ∃ z, a + la = z := ⟨_, rfl⟩
  have w1 : wrap64 (a + la) = now := by unfold wrap64; omega
  obtain ⟨u, hu⟩ : ∃ z, t + la = z := ⟨_, rfl⟩
  have w2 : wrap64 (t + la) = u := by unfold wrap64; omega
  have w3 : wrap64 (u + 0) = u := by unfold wrap64; omega
  have w3' : wrap64 u = u := by unfold wrap64; omega
  obtain ⟨far, hfar⟩ : ∃ z, now + 1099511627776 = z := ⟨_, rfl⟩
  have w4 : wrap64 (now + 1099511627776) = far := by unfold wrap64; omega
  obtain ⟨v, hv⟩ : ∃ z, u + 1099511627776 = z := ⟨_, rfl⟩
  have w5 : wrap64 (u + 1099511627776) = v := by unfold wrap64; omega
  have m64 : In64 8589934592 := ⟨by decide, by decide⟩
  have o64 : ownB.Ok := ⟨in64_0, in64_0, one64, in64_0⟩
  have ok0 : S0.Ok := ⟨CS.Ok.new 0, o64, rfl, rfl, m64, .inl rfl⟩
  have ok1 : (S1 a t).Ok := ⟨tol_ok (i64 _ (by omega) (by omega)) (i64 _ (by omega) (by omega)), o64, rfl, rfl, m64, .inl rfl⟩
  have ok2 : ∀ l : Int, (l = -1 ∨ l = 0 ∨ l = 1) → (S2 a t now u l).Ok := fun l hl => ⟨tol_ok (i64 _ (by omega) (by omega)) (i64 _ (by omega) (by omega)), ⟨show In64 now from i64 now (by omega) (by omega), show In64 u from i64 u (by omega) (by omega), one64, in64_0⟩, rfl, rfl, m64, hl⟩
  have inow : In64 now := i64 _ (by omega) (by omega)
  have ifar : In64 far := i64 _ (by omega) (by omega)
  have HR : Hid (∀ W p k0 k1, Pw W p k0 k1 (PP.new 8589934592) → Calls Try.prog 15 #[.pointer (some ⟨p, 0, none⟩), .int .i64 1, .bool true, .int .i64 0] W fun e w' => e = .returned (.tuple #[]) ∧ LeaveP p k0 k1 W S0 w') := Lib.hid (fun W p k0 k1 h => by
    have key := root_any h (PP.Ok.new m64) 1 true in64_0
    rw [rooted_new] at key
    exact key)
  have HT : Hid (∀ W p k0 k1, Pw W p k0 k1 S0 → Calls Try.prog 32 #[.pointer (some ⟨p, 0, none⟩), .int .i64 0, .int .i64 a, .int .i64 t] W fun e w' => e = .returned (.bool true) ∧ LeaveP p k0 k1 W (S1 a t) w') := Lib.hid (fun W p k0 k1 h => told_zero h ok0 rfl (i64 _ (by omega) (by omega)))
  have q1 := tol_time (s := CS.new 0) (at_ := a) (t := t) (x := now) (i64 _ (by omega) (by omega)) (i64 _ (by omega) (by omega))
  have f1 : ((CS.new 0).tol a t).fresh now 8589934592 = true := by rw [tol_fresh (i64 _ (by omega) (by omega))]; exact decide_eq_true (by omega)
  have e1 : (S1 a t).held now = S2 a t now u (-1) := by
    unfold PP.held
    rw [if_pos (show (S1 a t).root = true from rfl), if_pos (show (S1 a t).a.fresh now (S1 a t).most = true from f1), if_pos (show (S1 a t).a.tells now = true from q1.2)]
    show (⟨(CS.new 0).tol a t, ownB.knows now (((CS.new 0).tol a t).time now) 2199023255552, 8589934592, true, -1⟩ : PP) = _
    rw [q1.1, show t + (now - a) = u by omega]
    rfl
  have q2 := lent_time (now := now) (u := u) (x := now) (i64 _ (by omega) (by omega)) (i64 _ (by omega) (by omega))
  have em : (lentB now u).tellM 3 5 1 now = FolM 1 3 5 1 0 u 2199023255552 := by
    unfold CS.tellM
    rw [if_pos (show (lentB now u).own = true from rfl), q2.1, show u + (now - now) = u by omega]
    rfl
  have eb : (lentB now u).tellB 3 5 1 now = true := by
    unfold CS.tellB
    rw [q2.2, em, fol_chk (hd_of (by decide))]
    rfl
  have HTe : Hid (∀ W p k0 k1, Pw W p k0 k1 (S1 a t) → Calls Try.prog 17 #[.pointer (some ⟨p, 0, none⟩), .int .i64 1, .int .i64 3, .int .i64 5, .int .i64 1, .int .i64 now] W fun e w' => e = .returned (.tuple #[.agg #[.int .i64 8, .int .i64 1, .int .i64 3, .int .i64 5, .int .i64 1, .int .i64 0, .int .i64 u, .int .i64 0, .int .i64 0, .int .i64 2199023255552, .int .i64 0, .int .i64 0, .int .i64 0, .int .i64 0, .int .i64 0, .slice none 0 0], .bool true]) ∧ LeaveP p k0 k1 W (S2 a t now u (-1)) w') := Lib.hid (fun W p k0 k1 h => by
    have key := Go.Proofs.Ytfeoppbincldfaa.tell_one h ok1 (q := 3) (sr := 5) (po := 1) (x := now) ⟨by decide, by decide⟩ ⟨by decide, by decide⟩ ⟨by decide, by decide⟩ inow
    rw [e1] at key
    rw [show (S2 a t now u (-1)).b = lentB now u from rfl, eb, em, if_pos rfl] at key
    exact key)
  have f2 : ((CS.new 0).tol a t).fresh far 8589934592 = false := by rw [tol_fresh (i64 _ (by omega) (by omega))]; exact decide_eq_false (by omega)
  have e2 : (S2 a t now u (-1)).atS far = S2 a t now u 1 := by
    unfold PP.atS
    have eh : (S2 a t now u (-1)).held far = S2 a t now u (-1) := by
      unfold PP.held
      rw [if_pos (show (S2 a t now u (-1)).root = true from rfl), if_neg (show ¬ (S2 a t now u (-1)).a.fresh far (S2 a t now u (-1)).most = true from fun h => by have := f2.symm.trans h; cases this)]
    rw [eh]
    unfold PP.picked PP.held1
    rw [if_neg (show ¬ (S2 a t now u (-1)).a.fresh far (S2 a t now u (-1)).most = true from fun h => by have := f2.symm.trans h; cases this)]
    rfl
  have q3 := lent_time (now := now) (u := u) (x := far) (i64 _ (by omega) (by omega)) (i64 _ (by omega) (by omega))
  have HA : Hid (∀ W p k0 k1, Pw W p k0 k1 (S2 a t now u (-1)) → Calls Try.prog 16 #[.pointer (some ⟨p, 0, none⟩), .int .i64 far] W fun e w' => e = .returned (.tuple #[.int .i64 v, .bool true]) ∧ LeaveP p k0 k1 W (S2 a t now u 1) w') := Lib.hid (fun W p k0 k1 h => by
    have key := pat_any h (ok2 _ (by decide)) ifar
    unfold PP.atT PP.atB at key
    rw [e2, if_neg (show ¬ (S2 a t now u 1).last = 0 from fun h => by cases h), if_pos (show (S2 a t now u 1).last = 1 from rfl), if_neg (show ¬ (S2 a t now u 1).last = 0 from fun h => by cases h), if_pos (show (S2 a t now u 1).last = 1 from rfl)] at key
    rw [show (S2 a t now u 1).b = lentB now u from rfl, q3.1, q3.2, show u + (far - now) = v by omega] at key
    exact key)
  have HP : Hid (∀ W p k0 k1, Pw W p k0 k1 (S2 a t now u 1) → Calls Try.prog 18 #[.pointer (some ⟨p, 0, none⟩), .int .i64 far] W fun e w' => e = .returned (.int .i64 1) ∧ LeaveP p k0 k1 W (S2 a t now u 1) w') := Lib.hid (fun W p k0 k1 h => by
    have key := pick_any h (ok2 1 (by decide)) ifar
    have e3 : (S2 a t now u 1).held1 far = 1 := by
      unfold PP.held1
      rw [if_neg (show ¬ (S2 a t now u 1).a.fresh far (S2 a t now u 1).most = true from fun h => by have := f2.symm.trans h; cases this)]
      rfl
    unfold PP.picked at key
    rw [e3] at key
    exact key)
  have HF0 : Hid (∀ W p k0 k1, Pw W p k0 k1 (S2 a t now u 1) → Calls Try.prog 19 #[.pointer (some ⟨p, 0, none⟩), .int .i64 0, .int .i64 far] W fun e w' => e = .returned (.bool false) ∧ ∃ n, w' = W.drewN n) := Lib.hid (fun W p k0 k1 h => by
    have key := pfresh_any h (ok2 1 (by decide)) ifar 0
    rw [show (S2 a t now u 1).fresh 0 far = false from f2] at key
    exact key)
  have HF1 : Hid (∀ W p k0 k1, Pw W p k0 k1 (S2 a t now u 1) → Calls Try.prog 19 #[.pointer (some ⟨p, 0, none⟩), .int .i64 1, .int .i64 far] W fun e w' => e = .returned (.bool true) ∧ ∃ n, w' = W.drewN n) := Lib.hid (fun W p k0 k1 h => by
    have key := pfresh_any h (ok2 1 (by decide)) ifar 1
    rw [show (S2 a t now u 1).fresh 1 far = true from rfl] at key
    exact key)
  clear ha ht hla a0 a1 t0 t1 g0 g1 hnow hu hfar hv i64 m64 o64 ok0 ok1 ok2 inow ifar q1 f1 e1 q2 em eb f2 e2 q3
  go_enter Try.func4, Try.ntmps4
  go_wp2_with (first
    | (go_at_call 13; (with_reducible refine (HH.out _).mono ?_); rintro e w0 ⟨rfl, hb⟩; have B0 := Lib.hid hb; clear hb)
    | (go_at_call 14; (with_reducible refine (HN.out _).mono ?_); rintro e w1 ⟨p, k0, k1, rfl, l0, l1, l2, h1, b1⟩; have H1 := Lib.hid h1; have B1 := Lib.hid (bTr B0.out b1); have HL := Lib.hid (show ∀ k, k ∈ [p, k0, k1] → w.heap.size ≤ k from by have := B0.out.size; simp; omega); clear h1 b1 l0 l1 l2)
    | (go_at_call 15; (with_reducible refine (HR.out _ _ _ _ H1.out).mono ?_); rintro e w2 ⟨rfl, h1, b1⟩; have H2 := Lib.hid h1; have B2 := Lib.hid (b1.into B1.out HL.out); clear h1 b1)
    | (go_at_call 32; (with_reducible refine (HT.out _ _ _ _ H2.out).mono ?_); rintro e w3 ⟨rfl, h1, b1⟩; have H3 := Lib.hid h1; have B3 := Lib.hid (b1.into B2.out HL.out); clear h1 b1)
    | (go_at_call 17; (with_reducible refine (HTe.out _ _ _ _ H3.out).mono ?_); rintro e w4 ⟨rfl, h1, b1⟩; have H4 := Lib.hid (fun o => h1.alloc o); have B4 := Lib.hid (fun o => bAl (b1.into B3.out HL.out) o); clear h1 b1)
    | ((with_reducible refine at_storeM ?_); refine wpList_storeNM rfl _ _ rfl _ rfl #[.int .i64 8, .int .i64 1, .int .i64 3, .int .i64 5, .int .i64 1, .int .i64 0, .int .i64 u, .int .i64 0, .int .i64 0, .int .i64 2199023255552, .int .i64 0, .int .i64 0, .int .i64 0, .int .i64 0, .int .i64 0, .slice none 0 0] _ rfl rfl (by simp [Value.oneCell']) rfl rfl ?_)
    | (go_at_call 16; (with_reducible refine (HA.out _ _ _ _ (H4.out _)).mono ?_); rintro e w5 ⟨rfl, h1, b1⟩; have H5 := Lib.hid h1; have B5 := Lib.hid (b1.into (B4.out _) HL.out); clear h1 b1)
    | (go_at_call 18; (with_reducible refine (HP.out _ _ _ _ H5.out).mono ?_); rintro e w6 ⟨rfl, h1, b1⟩; have H6 := Lib.hid h1; have B6 := Lib.hid (b1.into B5.out HL.out); clear h1 b1)
    | (go_at_call 19; (with_reducible refine (HF0.out _ _ _ _ H6.out).mono ?_); rintro e w7 ⟨rfl, n7, rfl⟩; have H7 := Lib.hid (H6.out.drewN n7); have B7 := Lib.hid (bDr B6.out n7))
    | (go_at_call 19; (with_reducible refine (HF1.out _ _ _ _ H7.out).mono ?_); rintro e w8 ⟨rfl, n8, rfl⟩; have B8 := Lib.hid (bDr B7.out n8)))
  go_ret
  exact ⟨rfl, by first | exact B8.out | exact bDr B6.out (n7 + n8)⟩

theorem pairLends_holds : Rows.PairLendsSaid := pairLends_of (fun x0 x1 x2 w _ _ _ => lends_any x0 x1 x2 w)

end Go.Proofs.Ytfeoppbincldfaa
