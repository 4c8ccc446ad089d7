/- The reference's Stay: the walk. -/
import Derived.Test.YtlpijhopllhccaaPoRef4
namespace Go.Proofs.Ytlpijhopllhccaa
open Go.RowKit Go.Joins

/-- Up to here no slot behind the time is otherwise. -/
def NoB (ts : List (Int × Int)) (g : Int) (G : Nat) (bit : Int) (m : Nat) : Prop := ∀ i, slotI ts g ≤ i → i < m → isB ts G bit i = false
def RsRel (b c : Int) (sl : Value) (ts : List (Int × Int)) (g : Int) (G : Nat) (bit : Int) (w : World) (tv : Value) (wr : World) : Prop :=
  ∃ t : Nat, t ≤ 4 ∧ tv = .int .i64 (t : Int) ∧ NoB ts g G bit (t * ts.length) ∧ RB wr w.heap.size b c sl ∧ Below w.heap.size w wr
def RsIn (b c : Int) (sl : Value) (ts : List (Int × Int)) (g : Int) (G : Nat) (bit : Int) (w : World) (t : Nat) (vp : Value) (kv : Value) (wr : World) : Prop :=
  ∃ k : Nat, k ≤ ts.length ∧ kv = .int .i64 (k : Int) ∧ NoB ts g G bit (t * ts.length + k) ∧ PcArg wr vp c ts ∧ RB wr w.heap.size b c sl ∧ Below w.heap.size w wr
def oBit (o : Bool) : Int := if o then 1 else 0
set_option maxHeartbeats 4000000 in
theorem rstay_some (b c : Int) (bk o cap : Nat) (ts : List (Int × Int)) (x : Int) (G : Nat) (op : Bool) (w : World) (hr : RdT w bk o ts) (hg : Good b c ts) (hx : inT x) (hG : G < 8) (hi : Ints ts) :
    Calls Try.prog 20 #[LV b c (.slice (some ⟨bk, o, none⟩) ts.length cap), .int .i64 x, .int .i64 (G : Int), .bool op] w fun e w' => e = .returned (.int .i64 (rstayV c ts (gone b c x) G (oBit op))) ∧ Below w.heap.size w w' := by
  obtain ⟨n, hn⟩ : ∃ n, n = ts.length := ⟨_, rfl⟩
  have HP := Lib.hid (fun w (h : RdT w bk o ts) => pieces_some b c bk o cap ts w h hg)
  rw [← hn] at HP ⊢
  have h0 := hg.pos
  have h64 := hg.len
  rw [← hn] at h0 h64
  have HG := Lib.hid (phase_any b c (.slice (some ⟨bk, o, none⟩) n cap) x hg.b0 hg.b1 ⟨hg.c0, hg.c1⟩ hx)
  have HGB := Lib.hid (gone_bd (b := b) x hg.c0)
  have HGood := Lib.hid hg
  have hc0 := hg.c0
  have hc1 := hg.c1
  have HL0 := Lib.hid (RB.new w b c (.slice (some ⟨bk, o, none⟩) n cap))
  have HR := Lib.hid hr
  obtain ⟨l0, l1, l2⟩ := HL0.out.cells
  have Hn := Lib.hid hn
  have Hi := Lib.hid hi
  generalize gone b c x = g at *
  have y2 : wrap64 (2 * c) = 2 * c := by unfold wrap64; omega
  clear hn hr hg hx hi
  go_enter Try.func20, Try.ntmps20
  go_wp2_with (go_at_call 44; (with_reducible refine (HG.out.go _).mono ?_); rintro e w1 ⟨rfl, hb⟩; have HL1 := Lib.hid (HL0.out.below hb); have HB1 := Lib.hid (bTr (bAl (bRef w) (.cells #[.int .i64 b, .int .i64 c, .slice (some ⟨bk, o, none⟩) n cap] 52)) hb); obtain ⟨m0, m1, m2⟩ := HL1.out.cells; clear hb)
  go_loopw [10] (fun tv wr => RsRel b c (.slice (some ⟨bk, o, none⟩) n cap) ts g G (oBit op) w tv wr) (fun tv _ => 4 - (intOf tv).toNat)
  case atStart => exact ⟨0, by omega, rfl, fun i _ h => by omega, HL1.out, HB1.out⟩
  case round =>
    clear HL0 HL1 HB1 l0 l1 l2 m0 m1 m2
    obtain ⟨t, ht, rfl, hno, hlb, hb⟩ := hrel
    have HNo := Lib.hid hno
    have HLB := Lib.hid hlb
    have HB := Lib.hid hb
    obtain ⟨l0, l1, l2⟩ := hlb.cells
    rcases Nat.lt_or_ge t 4 with q | q
    · have hd : decide ((t : Int) < 4) = true := decide_eq_true (by omega)
      have HR1 := Lib.hid (HR.out.below hb)
      clear hno hlb hb
      go_wp2_with (go_at_call 45; (with_reducible refine (HP.out _ HR1.out).mono ?_); rintro e w2 ⟨vp, rfl, hpc, hb⟩; have HPC := Lib.hid hpc; have HL2 := Lib.hid (HLB.out.below hb); have HB2 := Lib.hid (bTr HB.out hb); obtain ⟨gb, gc, hvp, -, hgc, -⟩ := hpc; rw [← Hn.out] at hvp hgc; subst hvp; clear hb)
      go_loopw [25] (fun kv wr => RsIn b c (.slice (some ⟨bk, o, none⟩) n cap) ts g G (oBit op) w t (.slice (some ⟨gb, 0, none⟩) n gc) kv wr) (fun kv _ => n - (intOf kv).toNat)
      case atStart => exact ⟨0, by omega, rfl, HNo.out, HPC.out, HL2.out, HB2.out⟩
      case round =>
        clear HLB HL2 HB2 HB HPC HR1 l0 l1 l2
        obtain ⟨k, hk, rfl, hno, hpc, hlb, hb⟩ := hrel
        rw [← Hn.out] at hk
        rcases Nat.lt_or_ge k n with hkn | hkn
        · have hkl : k < ts.length := by rw [← Hn.out]; exact hkn
          have hd2 : decide ((k : Int) < (n : Int)) = true := decide_eq_true (by omega)
          obtain ⟨gg, ccp, he, hlt, hcp, hcl⟩ := hpc
          injection he with he1 he2 he3
          injection he1 with he1
          injection he1 with he1 _ _
          subst he1
          obtain ⟨c1, c2, c3⟩ := hcl k hkl
          have HPC1 := Lib.hid (show PcArg wr (.slice (some ⟨gb, 0, none⟩) n gc) c ts from ⟨gb, ccp, by rw [Hn.out, he3], hlt, hcp, hcl⟩)
          have HB := Lib.hid hb
          have HLB := Lib.hid hlb
          have HNo := Lib.hid hno
          have three := three_cells wr (.int .i64 (pre ts k)) (.int .i64 (endOf c ts k)) (.int .i64 (tA ts k)) 87
          obtain ⟨l0, l1, l2⟩ := (hlb.below (bAl (bRef wr) (.cells #[.int .i64 (pre ts k), .int .i64 (endOf c ts k), .int .i64 (tA ts k)] 87))).cells
          have hop := HGood.out.op k hkl
          have hbit := Lib.hid (bit_any (tA ts k) G hop.1 (by omega) (by omega))
          have hgb := HGB.out
          have hsl := HGood.out.slot_lt g
          have hup0 := up_at (c := c) (t := t) hkl
          have hup1 := HGood.out.up_to (t := t) hkl
          have hisB := isB_at (G := G) (bit := oBit op) (t := t) hkl
          have hp0 := HGood.out.pre0 k (by omega)
          have hp1 := HGood.out.preC (k := k) (by omega)
          have hlo := (HGood.out.long_pos (i := k) hkl)
          have heo : endOf c ts k = pre ts k + longI c ts k := by
            unfold endOf longI
            split
            · rw [pre_succ]
            · omega
          have hec : endOf c ts k ≤ c := by
            unfold endOf
            split
            · exact HGood.out.preC (by omega)
            · omega
          -- in plain numbers
          obtain ⟨s, hs⟩ : ∃ s, (t : Int) * c = s := ⟨_, rfl⟩
          have hs0 : 0 ≤ s := by rw [← hs]; exact Int.mul_nonneg (by omega) (by omega)
          have hs1 : s ≤ 4 * c := by rw [← hs]; exact Int.mul_le_mul_of_nonneg_right (by omega) (by omega)
          have v1 : wrap64 s = s := by unfold wrap64; omega
          have v2 : wrap64 (s + pre ts k) = s + pre ts k := by unfold wrap64; omega
          have v3 : wrap64 (s + endOf c ts k) = s + endOf c ts k := by unfold wrap64; omega
          have v4 : wrap64 (s + pre ts k - g) = s + pre ts k - g := by unfold wrap64; omega
          rw [hs] at hup0 hup1
          by_cases hgt : g < s + endOf c ts k
          · have e1 : decide (g < s + endOf c ts k) = true := decide_eq_true hgt
            have hge : slotI ts g ≤ t * ts.length + k := by
              rcases Nat.lt_or_ge (t * ts.length + k) (slotI ts g) with r | r
              · have h1 := HGood.out.up_le (i := t * ts.length + k + 1) (k := slotI ts g) r
                rw [hup1, up_slot hsl] at h1
                have := HGood.out.slot_start hgb.1
                omega
              · exact r
            cases hB : isB ts G (oBit op) (t * ts.length + k) with
            | true =>
              have HE := Lib.hid (HGood.out.found hgb.1 hge hB hno)
              rw [hup0] at HE
              have hne : ¬ bitA ts G k = oBit op := by rw [hB] at hisB; simpa using hisB.symm
              have hval : decide (tA ts k / ((2 ^ G : Nat) : Int) % 2 = 1) = !op := by
                unfold bitA at hne
                generalize tA ts k / ((2 ^ G : Nat) : Int) = y at hne ⊢
                cases op
                · have h2 : ¬ y % 2 = 0 := hne
                  exact decide_eq_true (by omega)
                · exact decide_eq_false hne
              rw [hval] at hbit
              generalize pre ts k = p at *
              generalize endOf c ts k = z at *
              generalize tA ts k = a at *
              have HGB2 := Lib.hid (And.intro hgb hp0)
              clear hb hlb hno hcl he2 he3 hcp hlt hop hgb hsl hup0 hup1 hisB hp0 hp1 hlo heo hec hge hB hne hval hgt hs0 hs1 hkl
              cases op <;> (
                go_wp2_with (go_at_call 46; (with_reducible refine (hbit.out.go _).mono ?_); rintro e w3 ⟨rfl, rfl⟩)
                all_goals (
                  go_ret
                  refine ⟨?_, bAl HB.out _⟩
                  have hh := HE.out
                  rw [hh.1]
                  refine (fun (q r : Int) (h : q = r) => (by rw [h] : Ending.returned (Value.int .i64 q) = Ending.returned (.int .i64 r))) _ _ ?_
                  first | omega | (rw [v4]; omega) | (rename_i h1 h2; split at h1 <;> omega) | (rename_i h2 h1 _; split at h1 <;> omega) | (rename_i h2 h1 _ _; split at h1 <;> omega)))
            | false =>
              have hyes : bitA ts G k = oBit op := by rw [hB] at hisB; simpa using hisB.symm
              have hval : decide (tA ts k / ((2 ^ G : Nat) : Int) % 2 = 1) = op := by
                unfold bitA at hyes
                generalize tA ts k / ((2 ^ G : Nat) : Int) = y at hyes ⊢
                cases op
                · have h2 : y % 2 = 0 := hyes
                  exact decide_eq_false (by omega)
                · exact decide_eq_true hyes
              rw [hval] at hbit
              have HN2 : Hid (NoB ts g G (oBit op) (t * ts.length + (k + 1))) := Lib.hid (fun i a b => by
                rcases Nat.lt_or_ge i (t * ts.length + k) with r | r
                · exact hno i a r
                · rw [show i = t * ts.length + k by omega]; exact hB)
              generalize pre ts k = p at *
              generalize endOf c ts k = z at *
              generalize tA ts k = a at *
              clear hb hlb hno hcl he2 he3 hcp hlt hop hgb hsl hup0 hup1 hisB hp0 hp1 hlo heo hec hge hB hyes hval hgt hs0 hs1 hkl
              cases op <;> (
                go_wp2_with (go_at_call 46; (with_reducible refine (hbit.out.go _).mono ?_); rintro e w3 ⟨rfl, rfl⟩)
                go_roundw
                case rel => exact ⟨k + 1, by rw [← Hn.out]; omega, by go_num, HN2.out, HPC1.out.below (bAl (bRef wr) _), HLB.out.below (bAl (bRef wr) _), bAl HB.out _⟩
                case measure => simp [intOf]; omega)
          · have e1 : decide (g < s + endOf c ts k) = false := decide_eq_false hgt
            have hlt2 : t * ts.length + k < slotI ts g := by
              rcases Nat.lt_or_ge (t * ts.length + k) (slotI ts g) with r | r
              · exact r
              · have h1 := HGood.out.up_le (i := slotI ts g + 1) (k := t * ts.length + k + 1) (by omega)
                rw [hup1, HGood.out.up_end hsl] at h1
                have := HGood.out.slot_end hgb.2
                omega
            have HN2 : Hid (NoB ts g G (oBit op) (t * ts.length + (k + 1))) := Lib.hid (fun i a b => by omega)
            generalize pre ts k = p at *
            generalize endOf c ts k = z at *
            generalize tA ts k = a at *
            clear hb hlb hno hcl he2 he3 hcp hlt hop hgb hsl hup0 hup1 hisB hp0 hp1 hlo heo hec hlt2 hgt hs0 hs1 hkl hbit
            go_wp2_with fail
            go_roundw
            case rel => exact ⟨k + 1, by rw [← Hn.out]; omega, by go_num, HN2.out, HPC1.out.below (bAl (bRef wr) _), HLB.out.below (bAl (bRef wr) _), bAl HB.out _⟩
            case measure => simp [intOf]; omega
        · obtain rfl : k = n := by omega
          have hd2 : decide ((k : Int) < (k : Int)) = false := decide_eq_false (by omega)
          have HN2 : Hid (NoB ts g G (oBit op) ((t + 1) * ts.length)) := Lib.hid (by rw [Nat.add_mul, Nat.one_mul, ← Hn.out]; rw [← Hn.out] at hno; exact hno)
          have HLB := Lib.hid hlb
          have HB := Lib.hid hb
          clear hno hpc hlb hb
          go_wp2_with fail
          go_roundw
          case rel => exact ⟨t + 1, by omega, by go_num, HN2.out, HLB.out, HB.out⟩
          case measure => simp [intOf]; omega
    · obtain rfl : t = 4 := by omega
      have hd : decide (((4 : Nat) : Int) < 4) = false := decide_eq_false (by omega)
      have HE := Lib.hid (HGood.out.missed (G := G) (bit := oBit op) (g := g) (by intro i a b; exact hno i a b))
      clear hno hlb hb
      go_wp2_with fail
      go_ret
      exact ⟨by rw [HE.out]; first | rfl | (rw [y2]; rfl), HB.out⟩

end Go.Proofs.Ytlpijhopllhccaa
