/- Package agenda at byte: container/heap over its queue. -/
import Derived.Test.YtnddiobjojnckaaAgMemB
namespace Go.Proofs.Ytnddiobjojnckaa
open Go.RowKit Go.Joins
namespace AgB

/-- The methods of *queue[byte]. -/
theorem mLen : Array.find? (fun x => x.name == "Len") Try.t69.methods = some { name := "Len", sig := 38, func := some (48, false), path := #[] } := by kernel_rfl
theorem mLess : Array.find? (fun x => x.name == "Less") Try.t69.methods = some { name := "Less", sig := 77, func := some (49, false), path := #[] } := by kernel_rfl
theorem mSwap : Array.find? (fun x => x.name == "Swap") Try.t69.methods = some { name := "Swap", sig := 74, func := some (50, false), path := #[] } := by kernel_rfl
theorem wnc (ts : Array TypeId) (t : TypeId) (a : Addr) (s m : String) : Builtin.ssaWrapNilChk_ ts t #[.pointer (some a), strVal s, strVal m] = pure (.pointer (some a)) := rfl
theorem via {g : Nat} {q : Value} {w : World} (h : w.cell? ⟨g, 2, none⟩ = some q) :
    (Go.method 194 69 (.pointer (some ⟨g, 2, none⟩)) "Len").run Try.prog w = .ok (48, q) w ∧
    (Go.method 194 69 (.pointer (some ⟨g, 2, none⟩)) "Less").run Try.prog w = .ok (49, q) w ∧
    (Go.method 194 69 (.pointer (some ⟨g, 2, none⟩)) "Swap").run Try.prog w = .ok (50, q) w := by
  refine ⟨?_, ?_, ?_⟩
  · unfold Go.method
    simp [go_sem, mLen, follow, receiverAt, Place.get, wnc, h]
  · unfold Go.method
    simp [go_sem, mLess, follow, receiverAt, Place.get, wnc, h]
  · unfold Go.method
    simp [go_sem, mSwap, follow, receiverAt, Place.get, wnc, h]
theorem viaPush (a : Addr) (w : World) : (Go.method 194 69 (.pointer (some a)) "Push").run Try.prog w = .ok (54, .pointer (some a)) w := by kernel_rfl
theorem viaPop (a : Addr) (w : World) : (Go.method 194 69 (.pointer (some a)) "Pop").run Try.prog w = .ok (53, .pointer (some a)) w := by kernel_rfl

/-- What holds behind the heap's steps: the same agenda, in another order. -/
def Same (B : Nat) (w0 w : World) (g : Nat) (now last : Int) (l0 l : List Ent) (n : Nat) : Prop := Ag B w g now last l ∧ l.Perm l0 ∧ (∀ k, n ≤ k → el l k = el l0 k) ∧ Below B w0 w ∧ KeptT [62, 60] w0 w
def HUp (B : Nat) (w0 : World) (g : Nat) (now last : Int) (l0 : List Ent) (n : Nat) (jv : Value) (wr : World) : Prop := ∃ (j : Nat) (l : List Ent), jv = .int .i64 (j : Int) ∧ j < n ∧ UpI l n j ∧ l.length = l0.length ∧ Same B w0 wr g now last l0 l n
theorem Ag.q {B : Nat} {w : World} {g : Nat} {now last : Int} {l : List Ent} (h : Ag B w g now last l) : ∃ q, w.cell? ⟨g, 2, none⟩ = some q ∧ QSt B w q l := by
  obtain ⟨_, v, h1, h2⟩ := h
  exact ⟨v, cell_of_row _ _ _ _ _ _ h1, h2⟩
theorem Ag.swap {B : Nat} {w w' : World} {g : Nat} {now last : Int} {l l' : List Ent} {q : Value} (h : Ag B w g now last l) (hc : w.cell? ⟨g, 2, none⟩ = some q) (hq : QSt B w' q l') (hk : KeptT [62] w w') : Ag B w' g now last l' := by
  obtain ⟨h0, v, h1, h2⟩ := h
  have : q = v := by
    have := cell_of_row _ _ 2 _ _ _ h1
    rw [hc] at this
    injection this
  subst this
  exact ⟨h0, q, hk _ _ h1 (fun cs t fr e => by injection e with _ e2 _; rw [← e2]; decide), hq⟩

theorem Ag.lt {B : Nat} {w : World} {g : Nat} {now last : Int} {l : List Ent} (h : Ag B w g now last l) : B ≤ w.heap.size := by
  obtain ⟨h0, v, h1, _⟩ := h
  have := lt_of_heap h1
  omega
theorem Same.call {B : Nat} {w0 w w1 : World} {g : Nat} {now last : Int} {l0 l : List Ent} {n : Nat} (h : Same B w0 w g now last l0 l n) (hb : Below w.heap.size w w1) : Same B w0 w1 g now last l0 l n :=
  ⟨h.1.below hb, h.2.1, h.2.2.1, h.2.2.2.1.trans (hb.mono h.1.lt), h.2.2.2.2.trans (KeptT.of_below hb)⟩
theorem Same.swap {B : Nat} {w0 w w1 : World} {g i j : Nat} {now last : Int} {l0 l : List Ent} {n : Nat} {q : Value} (h : Same B w0 w g now last l0 l n) (hc : w.cell? ⟨g, 2, none⟩ = some q) (hq : QSt B w1 q (swp l i j)) (hb : Below B w w1) (hk : KeptT [62] w w1) (hi : i < n) (hj : j < n) (hn : n ≤ l.length) :
    Same B w0 w1 g now last l0 (swp l i j) n :=
  ⟨h.1.swap hc hq hk, (swp_perm (by omega) (by omega)).trans h.2.1, fun k hk' => by rw [el_swp (by omega) (by omega), if_neg (by omega), if_neg (by omega)]; exact h.2.2.1 k hk', h.2.2.2.1.trans hb, h.2.2.2.2.trans (hk.wide (by simp))⟩

set_option maxHeartbeats 1000000 in
theorem up_any {B g n j : Nat} {now last : Int} {l : List Ent} {w : World} (h : Ag B w g now last l) (hn : n ≤ l.length) (hl : l.length ≤ 1000000) (hj : j < n) (hu : UpI l n j) :
    Calls Try.prog 24 #[.iface 69 (.pointer (some ⟨g, 2, none⟩)), .int .i64 (j : Int)] w fun e w' => e = .returned (.tuple #[]) ∧ ∃ l', Hp l' n ∧ Same B w w' g now last l l' n := by
  have H := Lib.hid h
  have HU := Lib.hid hu
  clear h hu
  go_enter Try.func24, Try.ntmps24
  go_wp2_with fail
  go_loopw [1] (fun jv wr => HUp B w g now last l n jv wr) (fun jv _ => (intOf jv).toNat)
  case atStart => exact ⟨j, l, rfl, hj, HU.out, rfl, H.out, .refl _, fun _ _ => rfl, Below.refl _ _, KeptT.refl _ _⟩
  case round =>
    clear H HU hj
    obtain ⟨j, l', rfl, hj, hu, hlen, hS⟩ := hrel
    have HU := Lib.hid hu
    have HS := Lib.hid hS
    have HLEN := Lib.hid hlen
    have hn' : n ≤ l'.length := by omega
    have hl' : l'.length ≤ 1000000 := by omega
    clear hu hS hlen
    rcases Nat.eq_zero_or_pos j with rfl | h0
    · go_wp2_with fail
      refine bodyPost_end (results_none rfl _ _ _) rfl ?_
      exact ⟨rfl, l', up_end HU.out (.inl rfl), HS.out⟩
    · obtain ⟨q, hc, hq⟩ := HS.out.1.q
      have hp := par_lt h0
      have e1 : ((j : Int) - 1).tdiv 2 = ((par j : Nat) : Int) := by rw [Int.tdiv_eq_ediv_of_nonneg (by omega)]; unfold par; omega
      have e2 : (((par j : Nat) : Int) == (j : Int)) = false := by rw [beq_eq_false_iff_ne]; omega
      obtain ⟨i, hi⟩ : ∃ i, par j = i := ⟨_, rfl⟩
      rw [hi] at hp e1 e2
      have HI := Lib.hid hi
      have HQ := Lib.hid hq
      have HC := Lib.hid hc
      have v1 := (via hc).2.1
      have HL := Lib.hid (less_any hq (i := j) (j := i) (by omega) (by omega))
      obtain ⟨b, hb⟩ : ∃ b, ltb (el l' j) (el l' i) = b := ⟨_, rfl⟩
      rw [hb] at HL
      have HBB := Lib.hid hb
      clear hq hi hb
      cases b
      · go_wp2_with (go_at_call 49; (with_reducible refine HL.out.mono ?_); rintro e w1 ⟨rfl, hb⟩; have HB1 := Lib.hid hb; clear hb)
        refine bodyPost_end (results_none rfl _ _ _) rfl ?_
        exact ⟨rfl, l', up_end HU.out (.inr (by rw [HI.out]; exact ltb_false HBB.out)), HS.out.call HB1.out⟩
      · go_wp2_with (first
          | (go_at_call 49; (with_reducible refine HL.out.mono ?_); rintro e w1 ⟨rfl, hb⟩; have HS1 := Lib.hid (HS.out.call hb); obtain ⟨q1, hc1, hq1⟩ := HS1.out.1.q; have v2 := (via hc1).2.2; have HC1 := Lib.hid hc1; have HSW := Lib.hid (swap_any hq1 (i := i) (j := j) (by omega) (by omega) (by omega)); clear hb hq1 v1)
          | (go_at_call 50; (with_reducible refine HSW.out.mono ?_); rintro e w2 ⟨rfl, hq2, hb2, hk2⟩; have HS2 := Lib.hid (HS1.out.swap HC1.out hq2 hb2 hk2 (by omega) (by omega) (by omega)); clear hq2 hb2 hk2 v2))
        exact ⟨⟨i, _, rfl, by omega, by have h := up_step hn' h0 hj HU.out (by rw [HI.out]; exact ltb_true HBB.out); rw [HI.out] at h; exact h, by rw [swp_len]; exact HLEN.out, HS2.out⟩, by simp [intOf]; omega⟩

end AgB
end Go.Proofs.Ytnddiobjojnckaa
