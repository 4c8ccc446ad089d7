/- Package gates: the slot of a time, and how long a slot is. -/
import Derived.Test.YtllmfkodgalklaaGtTime
namespace Go.Proofs.Ytllmfkodgalklaa
open Go.RowKit Go.Joins

def SlRel (g b c : Int) (sl : Value) (ts : List (Int × Int)) (w : World) (ev kv : Value) (wr : World) : Prop :=
  ∃ k : Nat, k + 1 ≤ ts.length ∧ kv = .int .i64 (k : Int) ∧ ev = .int .i64 (pre ts k) ∧ pre ts k ≤ g ∧ LB wr w.heap.size b c sl ∧ Below w.heap.size w wr
set_option maxHeartbeats 1000000 in
theorem slot_some (b c : Int) (bk o cap : Nat) (ts : List (Int × Int)) (x : Int) (w : World) (hr : RdT w bk o ts) (hcap : ts.length ≤ cap) (hg : Good b c ts) (hx : inT x) :
    Calls Try.prog 55 #[LV b c (.slice (some ⟨bk, o, none⟩) ts.length cap), .int .i64 x] w fun e w' => e = .returned (.tuple #[.int .i64 (slotI ts (gone b c x) : Int), .int .i64 (endOf c ts (slotI ts (gone b c x)) - gone b c x)]) ∧ Below w.heap.size w w' := by
  obtain ⟨n, hn⟩ : ∃ n, n = ts.length := ⟨_, rfl⟩
  rw [← hn] at hcap ⊢
  have h0 := hg.pos
  have h64 := hg.len
  rw [← hn] at h0 h64
  have HG := Lib.hid (gone_any b c (.slice (some ⟨bk, o, none⟩) n cap) x hg.b0 hg.b1 ⟨hg.c0, hg.c1⟩ hx)
  have HGB := Lib.hid (gone_bd (b := b) x hg.c0)
  have HGood := Lib.hid hg
  have HL0 := Lib.hid (LB.new w b c (.slice (some ⟨bk, o, none⟩) n cap))
  obtain ⟨l0, l1, l2⟩ := HL0.out.cells
  generalize gone b c x = g at *
  have Hn := Lib.hid hn
  have Hr := Lib.hid hr
  obtain ⟨L, hL⟩ : ∃ L : Nat, n = L + 1 := ⟨n - 1, by omega⟩
  have i3 : ((n : Int) - 1).toNat = L := by omega
  have i1 : (1 : Int) ≤ (n : Int) := by omega
  have i2 : (n : Int) - 1 ≤ (cap : Int) := by omega
  have HLn := Lib.hid hL
  clear hn hr hg hx h0 hL
  go_enter Try.func55, Try.ntmps55
  go_wp2_with (go_at_call 57; (with_reducible refine (HG.out.go _).mono ?_); rintro e w1 ⟨rfl, hb⟩; have HL1 := Lib.hid (HL0.out.below hb); have HB1 := Lib.hid (bTr (bAl (bRef w) (.cells #[.int .i64 b, .int .i64 c, .slice (some ⟨bk, o, none⟩) n cap] 24)) hb); obtain ⟨m0, m1, m2⟩ := HL1.out.cells; clear hb)
  go_loopw [8, 23] (fun pv kv wr => SlRel g b c (.slice (some ⟨bk, o, none⟩) n cap) ts w pv kv wr) (fun _ kv _ => n - (intOf kv).toNat)
  case atStart => exact ⟨0, by rw [← Hn.out]; omega, rfl, rfl, HGB.out.1, HL1.out, HB1.out⟩
  case round =>
    clear HL1 HB1 HL0 l0 l1 l2 m0 m1 m2
    obtain ⟨k, hk, rfl, rfl, hp, hlb, hb⟩ := hrel
    rw [← Hn.out, HLn.out] at hk
    have HB := Lib.hid hb
    have HLB := Lib.hid hlb
    obtain ⟨l0, l1, l2⟩ := hlb.cells
    clear hb hlb
    rcases Nat.lt_or_ge k L with q | q
    · have hd : decide ((k : Int) < (L : Int)) = true := decide_eq_true (by omega)
      have hk2 : k < ts.length := by rw [← Hn.out, HLn.out]; omega
      obtain ⟨c1, c2⟩ := (Hr.out.below HB.out).2 k hk2
      have hln := HGood.out.ln k hk2
      have hps := pre_succ ts k
      have hp0 := HGood.out.pre0 k (by omega)
      have hpc := HGood.out.preC (k := k + 1) (by omega)
      have hc1 := HGood.out.c1
      obtain ⟨a, ha⟩ : ∃ a, a = tA ts k := ⟨_, rfl⟩
      obtain ⟨r, hr⟩ : ∃ r, r = tR ts k := ⟨_, rfl⟩
      obtain ⟨p, hp'⟩ : ∃ p, p = pre ts k := ⟨_, rfl⟩
      rw [← ha] at c1
      rw [← hr] at c2 hln hps
      rw [← hp'] at hp0 hp hps ⊢
      have hgb := HGB.out
      have e4 : wrap64 (p + r) = p + r := by unfold wrap64; omega
      have e6 : wrap64 (p + r - g) = p + r - g := by unfold wrap64; omega
      have two := fun x y => two_cells wr x y 64
      have hsz := lt_of_heap HLB.out
      by_cases h1 : g < p + r
      · have e5 : decide (g < p + r) = true := decide_eq_true h1
        have HE : Hid (slotI ts g = k) := Lib.hid (HGood.out.slot_is hk2 (by omega) fun _ => by omega)
        have HQ : Hid (endOf c ts k = p + r) := Lib.hid (by unfold endOf; rw [if_pos (by rw [← Hn.out, HLn.out]; omega), hps])
        clear h1 hgb hp hp0 hpc hc1 hln hps hr hp' ha hk2
        go_wp2_with fail
        go_ret2
        exact ⟨by rw [HE.out, HQ.out]; first | rfl | (rw [e6]; rfl), bAl HB.out _⟩
      · have e5 : decide (g < p + r) = false := decide_eq_false h1
        have HQ : Hid (pre ts (k + 1) = p + r ∧ p + r ≤ g) := Lib.hid ⟨by rw [hps], by omega⟩
        clear h1 hgb hp hp0 hpc hc1 hln hps hr hp' ha hk2
        go_wp2_with fail
        go_roundw
        case rel => exact ⟨k + 1, by rw [← Hn.out, HLn.out]; omega, by go_num, by rw [HQ.out.1, e4], by rw [HQ.out.1]; exact HQ.out.2, HLB.out.below (bAl (bRef wr) _), bAl HB.out _⟩
        case measure => simp [intOf]; omega
    · obtain rfl : k = L := by omega
      have hd : decide ((k : Int) < (k : Int)) = false := decide_eq_false (by omega)
      have HE : Hid (slotI ts g = k) := Lib.hid (HGood.out.slot_is (by rw [← Hn.out, HLn.out]; omega) hp fun h => by rw [← Hn.out, HLn.out] at h; omega)
      have HQ : Hid (endOf c ts k = c) := Lib.hid (by unfold endOf; rw [if_neg (by rw [← Hn.out, HLn.out]; omega)])
      have hgb := HGB.out
      have hc1 := HGood.out.c1
      have e6 : wrap64 (c - g) = c - g := by unfold wrap64; omega
      have e7 : Hid ((n : Int) - 1 = (k : Int)) := Lib.hid (by rw [HLn.out]; omega)
      clear hp hgb hc1
      go_wp2_with fail
      go_region
      all_goals
        go_wp2_with fail
        go_ret2
        exact ⟨by rw [HE.out, HQ.out, ← e7.out]; first | rfl | (rw [e6]; rfl), bDr HB.out 1⟩

/-- A slot's length. -/
def LoRel (b c : Int) (sl : Value) (ts : List (Int × Int)) (i : Nat) (w : World) (ev kv : Value) (wr : World) : Prop :=
  ∃ k : Nat, k ≤ i ∧ kv = .int .i64 (k : Int) ∧ ev = .int .i64 (c - pre ts k) ∧ LB wr w.heap.size b c sl ∧ Below w.heap.size w wr
set_option maxHeartbeats 1000000 in
theorem long_some (b c : Int) (bk o cap : Nat) (ts : List (Int × Int)) (i : Nat) (w : World) (hr : RdT w bk o ts) (hcap : ts.length ≤ cap) (hg : Good b c ts) (hi : i < ts.length) :
    Calls Try.prog 56 #[LV b c (.slice (some ⟨bk, o, none⟩) ts.length cap), .int .i64 (i : Int)] w fun e w' => e = .returned (.int .i64 (longI c ts i)) ∧ Below w.heap.size w w' := by
  obtain ⟨n, hn⟩ : ∃ n, n = ts.length := ⟨_, rfl⟩
  rw [← hn] at hcap hi ⊢
  have h64 := hg.len
  rw [← hn] at h64
  have HGood := Lib.hid hg
  have HL0 := Lib.hid (LB.new w b c (.slice (some ⟨bk, o, none⟩) n cap))
  obtain ⟨l0, l1, l2⟩ := HL0.out.cells
  have hRA := (hr.below (bAl (bRef w) (.cells #[.int .i64 b, .int .i64 c, .slice (some ⟨bk, o, none⟩) n cap] 24))).2 i (by omega)
  obtain ⟨k1, k2⟩ := hRA
  have Hn := Lib.hid hn
  have Hr := Lib.hid hr
  by_cases h1 : i + 1 < n
  · have d1 : decide ((i : Int) < (n : Int) - 1) = true := decide_eq_true (by omega)
    have HE : Hid (longI c ts i = tR ts i) := Lib.hid (by unfold longI; rw [if_pos (by omega)])
    generalize tR ts i = r at *
    clear hn hr hg h1
    go_enter Try.func56, Try.ntmps56
    go_wp2_with fail
    go_ret
    exact ⟨by rw [HE.out]; rfl, bAl (bRef w) _⟩
  · have d1 : decide ((i : Int) < (n : Int) - 1) = false := decide_eq_false (by omega)
    have i1 : (0 : Int) ≤ (i : Int) := by omega
    have i2 : (i : Int) ≤ (cap : Int) := by omega
    have HE : Hid (longI c ts i = c - pre ts i) := Lib.hid (by unfold longI; rw [if_neg (by omega)])
    have HIn : Hid (i < n) := Lib.hid hi
    clear hn hr hg h1 hi
    go_enter Try.func56, Try.ntmps56
    go_wp2_with fail
    go_loopw [5, 27] (fun pv kv wr => LoRel b c (.slice (some ⟨bk, o, none⟩) n cap) ts i w pv kv wr) (fun _ kv _ => n - (intOf kv).toNat)
    case atStart => exact ⟨0, by omega, rfl, by simp [pre], HL0.out, bAl (bRef w) _⟩
    case round =>
      clear HL0 l0 l1 l2 k1 k2
      obtain ⟨k, hk, rfl, rfl, hlb, hb⟩ := hrel
      have HB := Lib.hid hb
      have HLB := Lib.hid hlb
      clear hb hlb
      rcases Nat.lt_or_ge k i with q | q
      · have hd : decide ((k : Int) < (i : Int)) = true := decide_eq_true (by omega)
        have hin := HIn.out
        have hi64 : i ≤ 64 := by omega
        have hk2 : k < ts.length := by rw [← Hn.out]; omega
        obtain ⟨c1, c2⟩ := (Hr.out.below HB.out).2 k hk2
        have hln := HGood.out.ln k hk2
        have hps := pre_succ ts k
        have hp0 := HGood.out.pre0 k (by omega)
        have hpc := HGood.out.preC (k := k + 1) (by omega)
        have hc1 := HGood.out.c1
        obtain ⟨a, ha⟩ : ∃ a, a = tA ts k := ⟨_, rfl⟩
        obtain ⟨r, hr⟩ : ∃ r, r = tR ts k := ⟨_, rfl⟩
        obtain ⟨p, hp'⟩ : ∃ p, p = pre ts k := ⟨_, rfl⟩
        rw [← ha] at c1
        rw [← hr] at c2 hln hps
        rw [← hp'] at hp0 hps ⊢
        have e4 : wrap64 (c - p - r) = c - (p + r) := by unfold wrap64; omega
        have two := fun x y => two_cells wr x y 64
        have hsz := lt_of_heap HLB.out
        have HQ : Hid (pre ts (k + 1) = p + r) := Lib.hid hps
        clear hp0 hpc hc1 hln hps hr hp' ha hk2 hin
        go_wp2_with fail
        go_roundw
        case rel => exact ⟨k + 1, by omega, by go_num, by rw [HQ.out, ← e4], HLB.out.below (bAl (bRef wr) _), bAl HB.out _⟩
        case measure => have := HIn.out; simp [intOf]; omega
      · obtain rfl : k = i := by omega
        have hd : decide ((k : Int) < (k : Int)) = false := decide_eq_false (by omega)
        go_wp2_with fail
        go_ret
        exact ⟨by rw [HE.out]; rfl, HB.out⟩

end Go.Proofs.Ytllmfkodgalklaa
