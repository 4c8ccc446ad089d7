/- Package best: beats. -/
import Derived.Test.YtihddpoaemhlnaaBtEq
namespace Go.Proofs.Ytihddpoaemhlnaa
open Go.RowKit Go.Joins

/-- What the own clock tells at a port, one step more than the chosen one. -/
def tellV (c : Vc) (id k : Int) : Vc := ⟨c.r, wrap64 (c.steps + 1), id, k, 0⟩
def sameR (a b : Vc) : Bool := decide (a.r.one = b.r.one ∧ a.r.cls = b.r.cls ∧ a.r.two = b.r.two ∧ a.r.id = b.r.id)
def beatsB (v : Vc) (id : Int) (c : Vc) (k : Int) : Bool := (sameR v c && v.steps == c.steps) || decide (({ v with at_ := 0 } : Vc).cmp (tellV c id k) < 0)
set_option maxRecDepth 20000 in
set_option maxHeartbeats 2000000 in
theorem beats_any (v : Vc) (id : Int) (c : Vc) (k : Int) (w : World) : Calls Try.prog 44 #[.agg (VC v), .int .i64 id, .agg (VC c), .int .i64 k] w fun e w' => e = .returned (.bool (beatsB v id c k)) ∧ Below w.heap.size w w' := by
  have HB : Hid (beatsB v id c k = ((sameR v c && v.steps == c.steps) || decide (({ v with at_ := 0 } : Vc).cmp (tellV c id k) < 0))) := Lib.hid rfl
  generalize beatsB v id c k = z at *
  have HV := Lib.hid (fun W => vcmp_any { v with at_ := 0 } (tellV c id k) W)
  have heq := fun W => run_eqP v.r.one v.r.cls v.r.two v.r.id c.r.one c.r.cls c.r.two c.r.id W (sameR v c) rfl
  generalize ({ v with at_ := 0 } : Vc).cmp (tellV c id k) = d at *
  generalize sameR v c = s at *
  unfold VC tellV at HV
  unfold VC
  cases s with
  | true =>
    cases hs : (v.steps == c.steps) with
    | true =>
      obtain rfl : z = true := by rw [HB.out, hs]; rfl
      go_enter Try.func44, Try.ntmps44
      go_wp2_with fail
      go_ret
      exact ⟨rfl, bAl (bAl (bRef w) _) _⟩
    | false =>
      obtain rfl : z = decide (d < 0) := by rw [HB.out, hs]; rfl
      go_enter Try.func44, Try.ntmps44
      go_wp2_with (go_at_call 14; (with_reducible refine (HV.out _).mono ?_); rintro e w' ⟨rfl, hb⟩)
      go_ret
      first
      | exact ⟨rfl, bTr (bSet (bAl (bAl (bRef w) _) _) _ (Nat.le_refl _) _) hb⟩
      | exact ⟨rfl, bTr (bAl (bAl (bRef w) _) _) hb⟩
  | false =>
    obtain rfl : z = decide (d < 0) := by rw [HB.out]; rfl
    go_enter Try.func44, Try.ntmps44
    go_wp2_with (go_at_call 14; (with_reducible refine (HV.out _).mono ?_); rintro e w' ⟨rfl, hb⟩)
    go_ret
    first
      | exact ⟨rfl, bTr (bSet (bAl (bAl (bRef w) _) _) _ (Nat.le_refl _) _) hb⟩
      | exact ⟨rfl, bTr (bAl (bAl (bRef w) _) _) hb⟩

/-- A port has heard it, in plain numbers. -/
structure Hd where
  up : Bool
  ok : Bool
  v : Vc
def HC (h : Hd) : Array Value := #[.bool h.up, .bool h.ok, .int .i64 h.v.r.one, .int .i64 h.v.r.cls, .int .i64 h.v.r.two, .int .i64 h.v.r.id, .int .i64 h.v.steps, .int .i64 h.v.from_, .int .i64 h.v.port, .int .i64 h.v.at_]
def roleV (id : Int) (c : Vc) (k : Int) (h : Hd) : Int :=
  if h.up then (if k = c.at_ then 2 else if (c.at_ != -1 && h.ok) && beatsB h.v id c k then 3 else 1) else 0
set_option maxRecDepth 20000 in
set_option maxHeartbeats 2000000 in
theorem role_any (id : Int) (c : Vc) (k : Int) (h : Hd) (w : World) : Calls Try.prog 34 #[.int .i64 id, .agg (VC c), .int .i64 k, .agg (HC h)] w fun e w' => e = .returned (.int .i64 (roleV id c k h)) ∧ Below w.heap.size w w' := by
  obtain ⟨up, ok, v⟩ := h
  unfold roleV
  have HB := Lib.hid (fun W => beats_any v id c k W)
  generalize hz : beatsB v id c k = z at *
  clear hz
  unfold VC at HB
  unfold VC HC
  dsimp only
  cases up with
  | false =>
    go_enter Try.func34, Try.ntmps34
    go_wp2_with fail
    go_ret
    exact ⟨rfl, bAl (bAl (bRef w) _) _⟩
  | true =>
    by_cases hk : k = c.at_
    · have h1 : (k == c.at_) = true := by rw [beq_iff_eq]; exact hk
      rw [if_pos rfl, if_pos hk]
      clear hk
      go_enter Try.func34, Try.ntmps34
      go_wp2_with fail
      go_ret
      exact ⟨rfl, bAl (bAl (bRef w) _) _⟩
    · have h1 : (k == c.at_) = false := by rw [beq_eq_false_iff_ne]; exact hk
      rw [if_pos rfl, if_neg hk]
      clear hk
      cases hn : (c.at_ != -1) with
      | false =>
        go_enter Try.func34, Try.ntmps34
        go_wp2_with fail
        go_ret
        exact ⟨rfl, bAl (bAl (bRef w) _) _⟩
      | true =>
        cases ok with
        | false =>
          go_enter Try.func34, Try.ntmps34
          go_wp2_with fail
          go_ret
          exact ⟨rfl, bAl (bAl (bRef w) _) _⟩
        | true =>
          cases z with
          | false =>
            go_enter Try.func34, Try.ntmps34
            go_wp2_with (go_at_call 44; (with_reducible refine (HB.out _).mono ?_); rintro e w' ⟨rfl, hb⟩)
            go_ret
            exact ⟨rfl, bTr (bAl (bAl (bRef w) _) _) hb⟩
          | true =>
            go_enter Try.func34, Try.ntmps34
            go_wp2_with (go_at_call 44; (with_reducible refine (HB.out _).mono ?_); rintro e w' ⟨rfl, hb⟩)
            go_ret
            exact ⟨rfl, bTr (bAl (bAl (bRef w) _) _) hb⟩

end Go.Proofs.Ytihddpoaemhlnaa
