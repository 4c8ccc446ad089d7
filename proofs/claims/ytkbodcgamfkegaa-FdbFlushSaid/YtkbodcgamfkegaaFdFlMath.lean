/- FdbFlush in plain numbers: what the table holds, beside the law's own map. -/
import Derived.Test.YtkbodcgamfkegaaFdSaid
import Derived.Test.YtkbodcgamfkegaaFdAge
import Derived.Test.YtkbodcgamfkegaaS5ArgF
namespace Go.Proofs.Ytkbodcgamfkegaa
open Go.RowKit Go.Joins Go.Maps Go.MapKept Go.ChangeMaps Go.WideMaps

def RI1 (v : Value) : Option (DataW Unit × List MemPlace) :=
  match v with
  | .int .i64 a => some (.lit (.int .i64 a), [])
  | _ => none
theorem RI1_inv (v : Value) (c : Int) (ps : List MemPlace) (h : RI1 v = some (.lit (.int .i64 c), ps)) : v = .int .i64 c := by
  unfold RI1 at h
  split at h
  · injection h with h
    injection h with h1 h2
    injection h1 with h1
    injection h1 with _ h1
    rw [h1]
  · cases h
/-- The law's own map: bytes, and ports. -/
def MW : MK Try.prog Nat Int where
  t := 74
  k := 5
  e := 3
  K := int_keyed Try.underlying5
  ht := Try.underlying74
  good := fun a => a < 256
  mkK := fun a => .int .u8 (a : Int)
  kl := fun a => .int .u8 (a : Int)
  key := fun a h => keyOf_int_mk Try.underlying5 (wf8 h)
  inj := fun a b h => by injection h with _ h; omega
  mkV := fun c => .int .i64 c
  R := RI1
  enc := fun c => .lit (.int .i64 c)
  hR := fun _ => rfl
  invR := RI1_inv
  zero := 0
  hz := fun _ => by kernel_rfl
theorem same_kw {a c : Nat} (ha : a < 256) (hc : c < 256) : (MW.kl a).sameKey (MW.kl c) = decide (a = c) := by
  by_cases h : a = c
  · subst h
    rw [decide_eq_true rfl]
    exact WideAt.sameKey_self (MW.isKey ha)
  · rw [decide_eq_false h]
    exact Maps.sameKey_ne (fun e => h (MW.klinj ha hc e))
def pb (b : Nat) : Pl := (9, ⟨0, b, 0, 0, 0, 0⟩)
theorem pb_good {b : Nat} (h : b < 256) : (pb b).Good := ⟨⟨by show (-9223372036854775808 : Int) ≤ 9; decide, by show (9 : Int) < 9223372036854775808; decide⟩, ⟨by show 0 < 256; decide, h, by show 0 < 256; decide, by show 0 < 256; decide, by show 0 < 256; decide, by show 0 < 256; decide⟩⟩
theorem pb_inj {i j : Nat} (h : pb i = pb j) : i = j := by
  unfold pb at h
  injection h with _ h
  injection h
def flS (F : Nat → Int) (E : List (Pl × (Int × Int))) : TS := ⟨4, 300, F, putL [] 9 (15, 0), [], E⟩
structure FlE (E : List (Pl × (Int × Int))) (L : List (Nat × Int)) : Prop where
  eq : E.map (fun e => (e.1, e.2.1)) = L.map (fun e => (pb e.1, e.2))
  ok : ∀ e ∈ L, e.1 < 256 ∧ 0 ≤ e.2 ∧ e.2 < 4
section
variable {F : Nat → Int} {E : List (Pl × (Int × Int))} {L : List (Nat × Int)}
theorem FlE.len (h : FlE E L) : E.length = L.length := by
  have := congrArg List.length h.eq
  simpa using this
theorem FlE.mem (h : FlE E L) {x : Pl × (Int × Int)} (hx : x ∈ E) : ∃ e ∈ L, x.1 = pb e.1 ∧ x.2.1 = e.2 := by
  have h1 : (x.1, x.2.1) ∈ E.map (fun e => (e.1, e.2.1)) := List.mem_map.2 ⟨x, hx, rfl⟩
  rw [h.eq] at h1
  obtain ⟨e, he, h2⟩ := List.mem_map.1 h1
  injection h2 with h2 h3
  exact ⟨e, he, h2.symm, h3.symm⟩
theorem FlE.mem2 (h : FlE E L) {e : Nat × Int} (he : e ∈ L) : ∃ x ∈ E, x.1 = pb e.1 ∧ x.2.1 = e.2 := by
  have h1 : (pb e.1, e.2) ∈ L.map (fun e => (pb e.1, e.2)) := List.mem_map.2 ⟨e, he, rfl⟩
  rw [← h.eq] at h1
  obtain ⟨x, hx, h2⟩ := List.mem_map.1 h1
  injection h2 with h2 h3
  exact ⟨x, hx, h2, h3⟩
theorem FlE.put (h : FlE E L) {b : Nat} (hb : b < 256) {v : Int} (h0 : 0 ≤ v) (h1 : v < 4) (t : Int) : FlE (putL E (pb b) (v, t)) (putL L b v) := by
  refine ⟨?_, fun e he => ?_⟩
  · unfold putL delL
    rw [List.map_cons, List.map_cons]
    congr 1
    have e1 : (E.filter (fun e => !decide (e.1 = pb b))).map (fun e => (e.1, e.2.1)) = (E.map (fun e => (e.1, e.2.1))).filter (fun y => !decide (y.1 = pb b)) := by rw [List.filter_map]; rfl
    have e2 : (L.filter (fun e => !decide (e.1 = b))).map (fun e => (pb e.1, e.2)) = (L.map (fun e => (pb e.1, e.2))).filter (fun y => !decide (y.1 = pb b)) := by
      rw [List.filter_map]
      congr 1
      refine List.filter_congr fun x _ => ?_
      show (!decide (x.1 = b)) = !decide (pb x.1 = pb b)
      by_cases e : x.1 = b
      · rw [e]; simp
      · rw [decide_eq_false e, decide_eq_false (fun h => e (pb_inj h))]
    rw [e1, e2, h.eq]
  · rcases List.mem_cons.1 he with rfl | he
    · exact ⟨hb, h0, h1⟩
    · exact h.ok e (mem_delL.1 he).1
theorem FlE.flush (h : FlE E L) (a : Int) : FlE (E.filter (fun e => !decide (e.2.1 = a))) (L.filter (fun e => !decide (e.2 = a))) := by
  refine ⟨?_, fun e he => h.ok e (List.mem_filter.1 he).1⟩
  have e1 : (E.filter (fun e => !decide (e.2.1 = a))).map (fun e => (e.1, e.2.1)) = (E.map (fun e => (e.1, e.2.1))).filter (fun y => !decide (y.2 = a)) := by rw [List.filter_map]; rfl
  have e2 : (L.filter (fun e => !decide (e.2 = a))).map (fun e => (pb e.1, e.2)) = (L.map (fun e => (pb e.1, e.2))).filter (fun y => !decide (y.2 = a)) := by rw [List.filter_map]; rfl
  rw [e1, e2, h.eq]
theorem FlE.okE (h : FlE E L) : OkE (flS F E) := by
  refine ⟨fun x hx => ?_, fun x hx => by cases hx⟩
  obtain ⟨e, he, _, h2⟩ := h.mem hx
  have := h.ok e he
  omega
theorem fl_vlan : vlanV (flS F E) 9 = (15, 0) := by
  unfold vlanV
  show (lookL (putL [] 9 (15, 0)) 9).getD (0, 0) = _
  rw [lookL_put_same]; rfl
end
section
variable {F : Nat → Int} {E : List (Pl × (Int × Int))} {L : List (Nat × Int)} {a : Int}
theorem fl_none (h : FlE E L) (hn : (L.map (·.1)).Nodup) {b : Nat} (hb : (b, a) ∈ L) : lookL (E.filter (fun e => !decide (e.2.1 = a))) (pb b) = none := by
  refine lookL_none.2 fun x hx e => ?_
  obtain ⟨y, hy, h1, h2⟩ := (h.flush a).mem hx
  obtain ⟨hy1, hy2⟩ := List.mem_filter.1 hy
  have e1 : y.1 = b := pb_inj (h1.symm.trans e)
  have e2 := nodup_key hn hy1 hb e1
  rw [e2] at hy2
  simp at hy2
theorem fl_some (h : FlE E L) (hn : (E.map (·.1)).Nodup) {b : Nat} {k : Int} (hb : (b, k) ∈ L) (hk : k ≠ a) : ∃ t, lookL (E.filter (fun e => !decide (e.2.1 = a))) (pb b) = some (k, t) := by
  obtain ⟨x, hx, h1, h2⟩ := h.mem2 hb
  obtain ⟨x1, x2, x3⟩ := x
  dsimp only at h1 h2
  subst h1 h2
  refine ⟨x3, lookL_of_mem (List.Nodup.sublist (List.Sublist.map _ List.filter_sublist) hn) (List.mem_filter.2 ⟨hx, by simpa using hk⟩)⟩
def fout (k u : Nat) (hit : Bool) : Int := if hit then bits .andNot .i64 15 ((2 ^ u : Nat) : Int) else bits .and .i64 (bits .andNot .i64 15 ((2 ^ u : Nat) : Int)) ((2 ^ k : Nat) : Int)
theorem fl_out_hit (h : FlE E L) (hn : (L.map (·.1)).Nodup) {b : Nat} (hb : (b, a) ∈ L) (u : Nat) : outP (flS F (E.filter (fun e => !decide (e.2.1 = a)))) u (pb b) = bits .andNot .i64 15 ((2 ^ u : Nat) : Int) := by
  unfold outP
  have e : whereV (flS F (E.filter (fun e => !decide (e.2.1 = a)))) (pb b) = 0 := by
    unfold whereV
    show (match lookL (E.filter (fun e => !decide (e.2.1 = a))) (pb b) with | some c => ((2 ^ c.1.toNat : Nat) : Int) | none => (lookL ([] : List (Pl × Int)) (pb b)).getD 0) = 0
    rw [fl_none h hn hb]
    rfl
  rw [if_pos e, show (pb b).1 = 9 from rfl, fl_vlan]
theorem fl_out_no (h : FlE E L) (hn : (E.map (·.1)).Nodup) {b k : Nat} (hb : (b, (k : Int)) ∈ L) (hk : (k : Int) ≠ a) (u : Nat) : outP (flS F (E.filter (fun e => !decide (e.2.1 = a)))) u (pb b) = bits .and .i64 (bits .andNot .i64 15 ((2 ^ u : Nat) : Int)) ((2 ^ k : Nat) : Int) := by
  unfold outP
  obtain ⟨t, ht⟩ := fl_some h hn hb hk
  have e : whereV (flS F (E.filter (fun e => !decide (e.2.1 = a)))) (pb b) = ((2 ^ k : Nat) : Int) := by
    unfold whereV
    show (match lookL (E.filter (fun e => !decide (e.2.1 = a))) (pb b) with | some c => ((2 ^ c.1.toNat : Nat) : Int) | none => (lookL ([] : List (Pl × Int)) (pb b)).getD 0) = _
    rw [ht]
    show ((2 ^ (k : Int).toNat : Nat) : Int) = _
    rw [Int.toNat_natCast]
  have hp := Nat.two_pow_pos k
  rw [e, if_neg (by omega), show (pb b).1 = 9 from rfl, fl_vlan]
/-- How many have come that stay. -/
def cntL (L : List (Nat × Int)) (lf : Lit → Bool) (a : Int) : Nat := (L.filter (fun e => !lf (MW.kl e.1) && !decide (e.2 = a))).length
theorem cnt_step (lf : Lit → Bool) : ∀ (L : List (Nat × Int)), (L.map (·.1)).Nodup → (∀ e ∈ L, e.1 < 256) → ∀ e0 ∈ L, lf (MW.kl e0.1) = true → cntL L (fun x => lf x && !x.sameKey (MW.kl e0.1)) a = cntL L lf a + if e0.2 = a then 0 else 1
  | [], _, _, e0, h, _ => by cases h
  | x :: L, hn, hg, e0, h, hl => by
    simp only [List.map_cons, List.nodup_cons] at hn
    have hx := hg x (List.mem_cons_self ..)
    have h0 := hg e0 h
    by_cases e : x.1 = e0.1
    · have e2 : x = e0 := by
        rcases List.mem_cons.1 h with h1 | h1
        · exact h1.symm
        · exact absurd (List.mem_map.2 ⟨e0, h1, e.symm⟩) hn.1
      subst e2
      have rest : L.filter (fun y => !((fun z => lf z && !z.sameKey (MW.kl x.1)) (MW.kl y.1)) && !decide (y.2 = a)) = L.filter (fun y => !lf (MW.kl y.1) && !decide (y.2 = a)) := by
        refine List.filter_congr fun y hy => ?_
        have hne : y.1 ≠ x.1 := fun e => hn.1 (List.mem_map.2 ⟨y, hy, e⟩)
        dsimp only
        rw [same_kw (hg y (List.mem_cons_of_mem _ hy)) hx, decide_eq_false hne]
        simp
      unfold cntL
      rw [List.filter_cons, List.filter_cons, rest]
      dsimp only
      simp only [same_kw hx hx, hl]
      by_cases ha : x.2 = a
      · simp [ha]
      · simp [ha]
    · have hin : e0 ∈ L := by
        rcases List.mem_cons.1 h with h1 | h1
        · exact absurd (by rw [h1]) e
        · exact h1
      have ih := cnt_step lf L hn.2 (fun y hy => hg y (List.mem_cons_of_mem _ hy)) e0 hin hl
      unfold cntL at ih ⊢
      rw [List.filter_cons, List.filter_cons]
      dsimp only at ih ⊢
      simp only [same_kw hx h0, decide_eq_false e, Bool.not_false, Bool.and_true]
      by_cases hc : (!lf (MW.kl x.1) && !decide (x.2 = a)) = true
      · rw [if_pos hc, if_pos hc, List.length_cons, List.length_cons]; omega
      · rw [if_neg hc, if_neg hc]; omega
theorem cnt_start {lf : Lit → Bool} (h : ∀ e ∈ L, lf (MW.kl e.1) = true) : cntL L lf a = 0 := by
  unfold cntL
  rw [List.length_eq_zero_iff, List.filter_eq_nil_iff]
  intro e he
  rw [h e he]
  simp
theorem cnt_end {lf : Lit → Bool} (h : ∀ l, lf l = false) : cntL L lf a = (L.filter (fun e => !decide (e.2 = a))).length := by
  unfold cntL
  congr 1
  refine List.filter_congr fun e _ => ?_
  rw [h]
  simp
end

end Go.Proofs.Ytkbodcgamfkegaa
