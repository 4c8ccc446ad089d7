/- Package osc: turns that are read; what a leg tells; the check of turns. -/
import Derived.Test.YtffjbngelapmmaaOsMath
import Derived.Lib.SmallJoins
import Derived.WalkMore
import Derived.Lib.Hide
import Derived.Laws.AppendOwnNone
import Derived.OrdersHeld
import Derived.Deep.RegionHeld
namespace Go.Proofs.Ytffjbngelapmmaa
open Go.RowKit Go.Joins

def RdT (w : World) (b o : Nat) (ts : List (Int × Int)) : Prop :=
  b < w.heap.size ∧ ∀ k, k < ts.length → w.cell? ⟨b, o + k * 2, none⟩ = some (.int .i64 (tA ts k)) ∧ w.cell? ⟨b, o + k * 2 + 1, none⟩ = some (.int .i64 (tR ts k))
def Ints (ts : List (Int × Int)) : Prop := ∀ k, k < ts.length → In64 (tA ts k) ∧ In64 (tR ts k)
/-- The value's elements are these turns. -/
def TArg (w : World) (v : Value) (ts : List (Int × Int)) : Prop :=
  Ints ts ∧ ((ts = [] ∧ ∃ a c, v = .slice a 0 c ∧ (a = none → c = 0)) ∨ (0 < ts.length ∧ ∃ b o c, v = .slice (some ⟨b, o, none⟩) ts.length c ∧ ts.length ≤ c ∧ RdT w b o ts))
section
variable {w w' : World} {b o : Nat} {v : Value} {ts : List (Int × Int)}
theorem RdT.below (h : RdT w b o ts) (hb : Below w.heap.size w w') : RdT w' b o ts :=
  ⟨Nat.lt_of_lt_of_le h.1 hb.size, fun k hk => ⟨(hb.cell h.1).trans (h.2 k hk).1, (hb.cell h.1).trans (h.2 k hk).2⟩⟩
theorem TArg.below (h : TArg w v ts) (hb : Below w.heap.size w w') : TArg w' v ts := by
  obtain ⟨h1, h2⟩ := h
  refine ⟨h1, ?_⟩
  rcases h2 with h2 | ⟨h3, b, o, c, e, hc, hr⟩
  · exact .inl h2
  · exact .inr ⟨h3, b, o, c, e, hc, hr.below hb⟩
theorem TArg.slice (h : TArg w v ts) : ∃ p c, v = .slice p ts.length c := by
  rcases h.2 with ⟨rfl, p, c, rfl, _⟩ | ⟨_, b, o, c, rfl, _⟩
  · exact ⟨p, c, rfl⟩
  · exact ⟨_, c, rfl⟩
end

theorem rcheck_ok (r : Int) (h1 : 2181843386368 ≤ r) (h2 : r ≤ 2216203124736) : RetQ 31 #[.int .i64 r] (.int .i64 0) := fun w => by
  have a1 : decide (r < 2181843386368) = false := decide_eq_false (by omega)
  have a2 : decide (2216203124736 < r) = false := decide_eq_false (by omega)
  go_enter Try.func31, Try.ntmps31
  go_wp2_with fail
  go_ret
  exact ⟨rfl, rfl⟩
theorem rcheck_bad (r : Int) (h : r < 2181843386368 ∨ 2216203124736 < r) : RetQ 31 #[.int .i64 r] (.int .i64 50) := fun w => by
  rcases h with h | h
  · have a1 : decide (r < 2181843386368) = true := decide_eq_true (by omega)
    go_enter Try.func31, Try.ntmps31
    go_wp2_with fail
    go_ret
    exact ⟨rfl, rfl⟩
  · have a1 : decide (r < 2181843386368) = false := decide_eq_false (by omega)
    have a2 : decide (2216203124736 < r) = true := decide_eq_true (by omega)
    go_enter Try.func31, Try.ntmps31
    go_wp2_with fail
    go_ret
    exact ⟨rfl, rfl⟩

/-- What a leg tells at a time of it. -/
theorem legat_ret (a r t x d y : Int) (hd : wrap64 (x - a) = d) (hd0 : 0 ≤ d) (hd1 : d ≤ 1099511627776) (hr0 : 0 ≤ r) (hr1 : r ≤ 2216203124736) (hy : wrap64 (t + run d r) = y) :
    Ret 24 #[.agg #[.int .i64 a, .int .i64 r, .int .i64 t], .int .i64 x] (.int .i64 y) := fun w => by
  have hq : d * r / 33554432 < 9223372036854775808 := by
    have := run_hi hd0 hr1
    unfold run at this
    omega
  have H : Ret 33 #[.int .i64 d, .int .i64 r, .int .i64 33554432, .int .i64 0] (.tuple #[.int .i64 (run d r), .int .i64 0]) := by
    have H := mulDiv_ret (a := d) (b := r) (c := 33554432) 0 ⟨by omega, by omega⟩ ⟨by omega, by omega⟩ ⟨by omega, by omega⟩
    rw [(md_quot hd0 hr0 (by omega) hq).1, (md_quot hd0 hr0 (by omega) hq).2] at H
    exact H
  generalize run d r = q at *
  clear hq
  go_enter Try.func24, Try.ntmps24
  go_wp2_with (first
    | (go_at_call 33; (with_reducible refine (H.go _).mono ?_); rintro e wx ⟨rfl, hb⟩; have c2 : wx.cell? ⟨w.heap.size, 2, none⟩ = some (.int .i64 t) := (hb.cell (by simp)).trans (cell_of_row _ _ _ _ _ _ (heap_alloc_new w _))))
  go_ret
  subst hy
  exact ⟨rfl, bTr (bAl (bRef w) _) hb⟩

/-- What is wrong at the first turn at which something is. -/
def chkFrom (p : Int) : List (Int × Int) → Int
  | [] => 0
  | (a, r) :: ts => if 1099511627776 < a ∨ a ≤ p then 31 else if r < 2181843386368 ∨ 2216203124736 < r then 50 else chkFrom a ts
def prev (ts : List (Int × Int)) (k : Nat) : Int := if k = 0 then -1 else tA ts (k - 1)
theorem drop_cons {ts : List (Int × Int)} {k : Nat} (h : k < ts.length) : ts.drop k = (tA ts k, tR ts k) :: ts.drop (k + 1) := by
  rw [List.drop_eq_getElem_cons h]
  unfold tA tR
  rw [List.getD_eq_getElem?_getD, List.getElem?_eq_getElem h]; rfl
def ChkRel (ts : List (Int × Int)) (w : World) (pv kv : Value) (wr : World) : Prop :=
  ∃ k : Nat, k ≤ ts.length ∧ kv = .int .i64 (k : Int) ∧ pv = .int .i64 (prev ts k) ∧ chkFrom (prev ts k) (ts.drop k) = chkFrom (-1) ts ∧ Below w.heap.size w wr
theorem chk_go {ts : List (Int × Int)} {w wr : World} {k : Nat} {a pi ki : Int} (hk : k < ts.length) (ha : a = tA ts k) (h : chkFrom a (ts.drop (k + 1)) = chkFrom (-1) ts) (hp : pi = a) (hki : ki = (k : Int) + 1) (hb : Below w.heap.size w wr) :
    ChkRel ts w (.int .i64 pi) (.int .i64 ki) wr := by
  subst ha hp hki
  have e : prev ts (k + 1) = tA ts k := by unfold prev; rw [if_neg (by omega)]; rfl
  exact ⟨k + 1, by omega, by go_num, by rw [e], by rw [e]; exact h, hb⟩

set_option maxHeartbeats 1000000 in
theorem check_some (b o c : Nat) (ts : List (Int × Int)) (w : World) (hr : RdT w b o ts) (hl : ts.length ≤ 1000000) :
    Calls Try.prog 20 #[.slice (some ⟨b, o, none⟩) ts.length c] w fun e w' => e = .returned (.int .i64 (chkFrom (-1) ts)) ∧ Below w.heap.size w w' := by
  obtain ⟨n, hn⟩ : ∃ n, n = ts.length := ⟨_, rfl⟩
  rw [← hn] at hl ⊢
  have Hn := Lib.hid hn
  have Hr := Lib.hid hr
  clear hn hr
  go_enter Try.func20, Try.ntmps20
  go_wp2_with fail
  go_loopw [3, 9] (fun pv kv wr => ChkRel ts w pv kv wr) (fun _ kv _ => n - (intOf kv).toNat)
  case atStart => exact ⟨0, by omega, rfl, rfl, rfl, bRef w⟩
  case round =>
    obtain ⟨k, hk, rfl, rfl, hch, hb⟩ := hrel
    rw [← Hn.out] at hk
    have HB := Lib.hid hb
    clear hb
    rcases Nat.lt_or_ge k n with g | g
    · have hd : decide ((k : Int) < (n : Int)) = true := decide_eq_true (by omega)
      rw [drop_cons (by rw [← Hn.out]; exact g)] at hch
      have hcell := (Hr.out.below HB.out).2 k (by rw [← Hn.out]; exact g)
      obtain ⟨c1, c2⟩ := hcell
      obtain ⟨a, ha⟩ : ∃ a, a = tA ts k := ⟨_, rfl⟩
      obtain ⟨r, hr⟩ : ∃ r, r = tR ts k := ⟨_, rfl⟩
      obtain ⟨p, hp⟩ : ∃ p, p = prev ts k := ⟨_, rfl⟩
      rw [← ha] at c1 hch
      rw [← hr] at c2 hch
      rw [← hp] at hch ⊢
      have HC := Lib.hid hch
      have HA := Lib.hid ha
      clear hch ha hr hp
      have two : ∀ x y : Value, (wr.alloc (.cells #[x, y] 32)).cell? ⟨wr.heap.size, 0, none⟩ = some x ∧ (wr.alloc (.cells #[x, y] 32)).cell? ⟨wr.heap.size, 1, none⟩ = some y := fun x y => ⟨cell_of_row _ _ _ _ _ _ (heap_alloc_new wr _), cell_of_row _ _ _ _ _ _ (heap_alloc_new wr _)⟩
      by_cases h1 : 1099511627776 < a
      · have d1 : decide (1099511627776 < a) = true := decide_eq_true h1
        have hE : chkFrom (-1) ts = 31 := by rw [← HC.out]; unfold chkFrom; rw [if_pos (.inl h1)]
        have HE := Lib.hid hE
        clear h1 hE
        go_wp2_with fail
        go_ret
        exact ⟨by rw [HE.out]; rfl, bAl HB.out _⟩
      have d1 : decide (1099511627776 < a) = false := decide_eq_false h1
      by_cases h2 : a ≤ p
      · have d2 : decide (a ≤ p) = true := decide_eq_true h2
        have hE : chkFrom (-1) ts = 31 := by rw [← HC.out]; unfold chkFrom; rw [if_pos (.inr h2)]
        have HE := Lib.hid hE
        clear h1 h2 hE
        go_wp2_with fail
        go_ret
        exact ⟨by rw [HE.out]; rfl, bAl HB.out _⟩
      have d2 : decide (a ≤ p) = false := decide_eq_false h2
      have h12 : ¬ (1099511627776 < a ∨ a ≤ p) := by omega
      by_cases h3 : r < 2181843386368 ∨ 2216203124736 < r
      · have HK := rcheck_bad r h3
        have hE : chkFrom (-1) ts = 50 := by rw [← HC.out]; unfold chkFrom; rw [if_neg h12, if_pos h3]
        have HE := Lib.hid hE
        clear h1 h2 h12 h3 hE
        go_wp2_with (go_at_call 31; (with_reducible refine (HK.go _).mono ?_); rintro e w1 ⟨rfl, rfl⟩)
        go_ret
        exact ⟨by rw [HE.out]; rfl, bAl HB.out _⟩
      · have HK := rcheck_ok r (by omega) (by omega)
        have hE : chkFrom a (ts.drop (k + 1)) = chkFrom (-1) ts := by rw [← HC.out, show chkFrom p ((a, r) :: ts.drop (k + 1)) = (if 1099511627776 < a ∨ a ≤ p then 31 else if r < 2181843386368 ∨ 2216203124736 < r then 50 else chkFrom a (ts.drop (k + 1))) from rfl, if_neg h12, if_neg h3]
        have HE := Lib.hid hE
        clear h1 h2 h12 h3 hE
        go_wp2_with (go_at_call 31; (with_reducible refine (HK.go _).mono ?_); rintro e w1 ⟨rfl, rfl⟩)
        go_roundw
        case rel => exact chk_go (by rw [← Hn.out]; exact g) HA.out HE.out rfl rfl (bAl HB.out _)
        case measure => simp [intOf]; omega
    · obtain rfl : k = n := by omega
      have hd : decide ((k : Int) < (k : Int)) = false := decide_eq_false (by omega)
      have hE : chkFrom (-1) ts = 0 := by rw [← hch, Hn.out, List.drop_length]; rfl
      have HE := Lib.hid hE
      clear hch hE
      go_wp2_with fail
      go_ret
      exact ⟨by rw [HE.out]; rfl, HB.out⟩

end Go.Proofs.Ytffjbngelapmmaa
