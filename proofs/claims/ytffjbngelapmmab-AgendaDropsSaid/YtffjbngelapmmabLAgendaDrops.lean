/- For every two slices of ints AgendaDrops answers true: what was taken off never comes; all else does. No condition. -/
import Derived.Test.YtffjbngelapmmabFAgendaDrops
import Derived.Test.YtffjbngelapmmabAgMap
namespace Go.Proofs.Ytffjbngelapmmab
open Go.RowKit Go.Joins

theorem drops_many (p q : Option Addr) (n c m d : Nat) (w : World) (h : 100 < n ∨ 100 < m) :
    Calls Try.prog 6 #[.slice p n c, .slice q m d] w fun e w' => e = .returned (.bool true) ∧ Below w.heap.size w w' := by
  have HH := Lib.hid head_ret
  by_cases h1 : 100 < n
  · have d1 : decide ((100 : Int) < (n : Int)) = true := decide_eq_true (by omega)
    clear h
    go_enter Try.func6, Try.ntmps6
    go_wp2_with (go_at_call 8; (with_reducible refine (HH.out _).mono ?_); rintro e w1 ⟨rfl, hb⟩; have HB := Lib.hid hb; clear hb)
    go_ret
    exact ⟨rfl, HB.out⟩
  · have d1 : decide ((100 : Int) < (n : Int)) = false := decide_eq_false (by omega)
    have d2 : decide ((100 : Int) < (m : Int)) = true := decide_eq_true (by omega)
    clear h
    go_enter Try.func6, Try.ntmps6
    go_wp2_with (go_at_call 8; (with_reducible refine (HH.out _).mono ?_); rintro e w1 ⟨rfl, hb⟩; have HB := Lib.hid hb; clear hb)
    go_ret
    exact ⟨rfl, HB.out⟩
/-- What is left of what was put. -/
def Left (xs : List Int) (S : List (Int × Int × Int)) (G : List Int) : Prop := Uniq S ∧ (∀ s, s ∈ S ↔ (s ∈ putS 256 xs xs.length ∧ s.2.1 ∉ G)) ∧ S.length + G.length = xs.length
theorem left_start (xs : List Int) : Left xs (putS 256 xs xs.length) [] := ⟨putS_uniq _ _ _, fun s => by simp, by rw [putS_len]; simp⟩
theorem left_there {xs : List Int} {S : List (Int × Int × Int)} {G : List Int} {k : Int} (h : Left xs S G) (h0 : 1 ≤ k) (h1 : k ≤ (xs.length : Int)) (hn : k ∉ G) : ∃ s ∈ S, s.2.1 = k := by
  refine ⟨(xs.getD (k - 1).toNat 0 % 256, (((k - 1).toNat : Nat) : Int) + 1, (((k - 1).toNat : Nat) : Int)), (h.2.1 _).2 ⟨putS_in (by omega), ?_⟩, ?_⟩
  · show (((k - 1).toNat : Nat) : Int) + 1 ∉ G
    rw [show (((k - 1).toNat : Nat) : Int) + 1 = k by omega]; exact hn
  · show (((k - 1).toNat : Nat) : Int) + 1 = k
    omega
theorem left_not {xs : List Int} {S : List (Int × Int × Int)} {G : List Int} {k : Int} (h : Left xs S G) (hk : ¬ k ≤ (xs.length : Int) ∨ k ∈ G) : ∀ s ∈ S, s.2.1 ≠ k := by
  intro s hs e
  obtain ⟨h1, h2⟩ := (h.2.1 s).1 hs
  obtain ⟨j, hj, rfl⟩ := putS_mem h1
  rcases hk with hk | hk
  · exact hk (by rw [← e]; show (j : Int) + 1 ≤ _; omega)
  · exact h2 (by rw [e]; exact hk)
theorem left_drop {xs : List Int} {S S' : List (Int × Int × Int)} {G : List Int} {m : Int × Int × Int} {k : Int} (h : Left xs S G) (hm : m.2.1 = k) (hp : (m :: S').Perm S) : Left xs S' (k :: G) := by
  have hu := h.1.perm hp.symm
  have hc := List.pairwise_cons.1 hu
  refine ⟨hc.2, fun s => ⟨fun hs => ?_, fun hs => ?_⟩, ?_⟩
  · have h1 := (h.2.1 s).1 (hp.mem_iff.1 (List.mem_cons_of_mem _ hs))
    refine ⟨h1.1, fun hh => ?_⟩
    rcases List.mem_cons.1 hh with e | e
    · exact hc.1 s hs (hm.trans e.symm)
    · exact h1.2 e
  · have h1 := hp.mem_iff.2 ((h.2.1 s).2 ⟨hs.1, fun hh => hs.2 (List.mem_cons_of_mem _ hh)⟩)
    rcases List.mem_cons.1 h1 with e | e
    · exact absurd (List.mem_cons.2 (.inl (by rw [e]; exact hm))) hs.2
    · exact e
  · have := hp.length_eq
    have := h.2.2
    simp at *
    omega
def DPutRel (w : World) (B : Nat) (xs : List Int) (g : Nat) (kv : Value) (wr : World) : Prop := ∃ k : Nat, k ≤ xs.length ∧ kv = .int .i64 (k : Int) ∧ AgI.St B wr g 0 (k : Int) (putS 256 xs k) ∧ Below w.heap.size w wr
def DDropRel (w : World) (B : Nat) (xs ys : List Int) (g mb : Nat) (kv : Value) (wr : World) : Prop :=
  ∃ (i : Nat) (S : List (Int × Int × Int)) (G : List Int), i ≤ ys.length ∧ kv = .int .i64 (i : Int) ∧ Left xs S G ∧ AgI.St B wr g 0 (xs.length : Int) S ∧ MapG wr mb G.length G ∧ Below w.heap.size w wr
def DGetRel (w : World) (B : Nat) (xs : List Int) (G : List Int) (g mb : Nat) (nv lv kv : Value) (wr : World) : Prop :=
  ∃ (i : Nat) (last now : Int) (S : List (Int × Int × Int)), i ≤ xs.length ∧ kv = .int .i64 (i : Int) ∧ nv = .int .i64 (i : Int) ∧ lv = .int .i64 last ∧ S.length + i + G.length = xs.length ∧ Uniq S ∧ (∀ s ∈ S, s ∈ putS 256 xs xs.length ∧ s.2.1 ∉ G) ∧ (∀ s ∈ S, last ≤ s.1) ∧
    AgI.St B wr g now (xs.length : Int) S ∧ MapG wr mb G.length G ∧ Below w.heap.size w wr

set_option maxRecDepth 20000 in
set_option maxHeartbeats 4000000 in
theorem drops_some (p q : Option Addr) (n c m d : Nat) (xs ys : List Int) (w : World) (h : LArg w (.slice p n c) xs) (h' : LArg w (.slice q m d) ys) (hn : n ≤ 100) (hm : m ≤ 100) :
    Calls Try.prog 6 #[.slice p n c, .slice q m d] w fun e w' => e = .returned (.bool true) ∧ Below w.heap.size w w' := by
  have HH := Lib.hid head_ret
  have HN := Lib.hid AgI.new_st
  have hmm := @run_makeMap Try.prog
  have d1 : decide ((100 : Int) < (n : Int)) = false := decide_eq_false (by omega)
  have d2 : decide ((100 : Int) < (m : Int)) = false := decide_eq_false (by omega)
  have HNL := Lib.hid (larg_len h)
  have HML := Lib.hid (larg_len h')
  have HA := Lib.hid h
  have HA2 := Lib.hid h'
  clear h h'
  go_enter Try.func6, Try.ntmps6
  go_wp2_with (first
    | (go_at_call 8; (with_reducible refine (HH.out _).mono ?_); rintro e w1 ⟨rfl, hb⟩; have HB := Lib.hid hb; clear hb)
    | (go_at_call 9; (with_reducible refine (HN.out _).mono ?_); rintro e w2 ⟨g, rfl, hs, hb⟩; have HS := Lib.hid hs; have HBW : Hid (w.heap.size ≤ w1.heap.size) := Lib.hid HB.out.size; replace HB := Lib.hid (AgI.bTr HB.out hb); clear hs hb))
  obtain ⟨B, hB⟩ : ∃ B, w1.heap.size = B := ⟨_, rfl⟩
  rw [hB] at HS HBW
  clear hB
  go_loopw [34] (fun kv wr => DPutRel w B xs g kv wr) (fun kv _ => n - (intOf kv).toNat)
  case atStart => exact ⟨0, by omega, rfl, HS.out, HB.out⟩
  case round =>
    clear HS HB
    obtain ⟨k, hk, rfl, hs, hb⟩ := hrel
    rw [← HNL.out] at hk
    have HS := Lib.hid hs
    have HB := Lib.hid hb
    clear hs hb
    rcases Nat.lt_or_ge k n with g1 | g1
    · have hd : decide ((k : Int) < (n : Int)) = true := decide_eq_true (by omega)
      obtain ⟨b, o, rfl, hnx, hc⟩ := larg_at HA.out (k := k) (by rw [← HNL.out]; exact g1)
      clear hnx
      have hlt := World.block_lt_of_cell? _ _ (hc k (by rw [← HNL.out]; exact g1))
      have c1 := (HB.out.cell hlt).trans (hc k (by rw [← HNL.out]; exact g1))
      clear hc hlt
      obtain ⟨x, hx⟩ : ∃ x, xs.getD k 0 = x := ⟨_, rfl⟩
      rw [hx] at c1
      have hm' := low8 x
      obtain ⟨y, hy⟩ : ∃ y, x % 256 = y := ⟨_, rfl⟩
      rw [hy] at hm'
      have HP := Lib.hid (AgI.put_st HS.out y (k : Int) (by omega) (by omega) (by rw [putS_len]; omega) (by omega) (by omega))
      have HXY : Hid (putS 256 xs (k + 1) = putS 256 xs k ++ [(y, (k : Int) + 1, (k : Int))]) := Lib.hid (by rw [putS_succ, hx, hy])
      clear hx hy
      go_wp2_with (go_at_call 10; (with_reducible refine HP.out.mono ?_); rintro e w3 ⟨rfl, hs, hb, hk2⟩; have HS2 := Lib.hid hs; have HB2 := Lib.hid hb; clear hs hb hk2)
      go_roundw
      case rel => exact ⟨k + 1, by rw [← HNL.out]; omega, by go_num, by rw [HXY.out]; exact HS2.out, HB.out.trans (HB2.out.mono HBW.out)⟩
      case measure => simp [intOf]; omega
    · obtain rfl : k = n := by omega
      have hd : decide ((k : Int) < (k : Int)) = false := decide_eq_false (by omega)
      have HSF : Hid (AgI.St B wr g 0 (xs.length : Int) (putS 256 xs xs.length)) := Lib.hid (by rw [← HNL.out]; exact HS.out)
      go_wp2_with fail
      have HMB : Hid (w.heap.size ≤ wr.heap.size) := Lib.hid HB.out.size
      have HMAP := Lib.hid (mapG_made wr)
      obtain ⟨mb, hmb⟩ : ∃ mb, wr.heap.size = mb := ⟨_, rfl⟩
      have HWM : Hid (AgI.St B (wr.alloc (.map #[] 0)) g 0 (xs.length : Int) (putS 256 xs xs.length)) := Lib.hid (HSF.out.below (AgI.bAl (AgI.bRef wr) _))
      have HBM : Hid (Below w.heap.size w (wr.alloc (.map #[] 0))) := Lib.hid (AgI.bAl HB.out _)
      rw [hmb] at HMB HMAP
      simp only [hmb]
      clear hmb hmm
      go_loopw [59] (fun kv wx => DDropRel w B xs ys g mb kv wx) (fun kv _ => m - (intOf kv).toNat)
      case atStart => exact ⟨0, _, [], by omega, rfl, left_start xs, HWM.out, HMAP.out, HBM.out⟩
      case round =>
        clear HS HB HSF HMAP HWM HBM
        obtain ⟨i, S, G, hi, rfl, hL, hs, hM, hb⟩ := hrel
        rw [← HML.out] at hi
        have HS := Lib.hid hs
        have HB := Lib.hid hb
        have HL := Lib.hid hL
        have HM := Lib.hid hM
        have hG : G.length ≤ 100 := by have := hL.2.2; rw [← HNL.out] at this; omega
        have hSl : S.length ≤ 100 := by have := hL.2.2; rw [← HNL.out] at this; omega
        clear hs hb hL hM
        rcases Nat.lt_or_ge i m with g2 | g2
        · have hd2 : decide ((i : Int) < (m : Int)) = true := decide_eq_true (by omega)
          obtain ⟨b, o, rfl, hnx, hc⟩ := larg_at HA2.out (k := i) (by rw [← HML.out]; exact g2)
          clear hnx
          have hlt := World.block_lt_of_cell? _ _ (hc i (by rw [← HML.out]; exact g2))
          have c1 := (HB.out.cell hlt).trans (hc i (by rw [← HML.out]; exact g2))
          clear hc hlt
          obtain ⟨x, hx⟩ : ∃ x, ys.getD i 0 = x := ⟨_, rfl⟩
          rw [hx] at c1
          have hm' := low8 x
          obtain ⟨y, hy⟩ : ∃ y, x % 256 = y := ⟨_, rfl⟩
          rw [hy] at hm'
          have hy0 : 0 ≤ y := by omega
          have hy1 : y < 256 := by omega
          clear hx hy
          have ew : wrap64 (1 + y) = 1 + y := by unfold wrap64; omega
          have hl := HM.out.look (1 + y) ⟨by omega, by omega⟩
          have HD := Lib.hid (AgI.drop_st HS.out (by omega) (1 + y))
          by_cases ht : 1 + y ≤ (k : Int) ∧ 1 + y ∉ G
          · have t1 : decide (1 + y ≤ (k : Int)) = true := decide_eq_true ht.1
            rw [decide_eq_false ht.2] at hl
            obtain ⟨s0, hs0, hs1⟩ := left_there HL.out (show 1 ≤ 1 + y by omega) (by rw [← HNL.out]; exact ht.1) ht.2
            have HT := Lib.hid ht
            have HS0 := Lib.hid hs0
            have HS1 := Lib.hid hs1
            clear ht hs0 hs1
            go_wp2_with fail
            refine HD.out.mono ?_
            rintro e w4 ⟨hb, hk2, hcase⟩
            rcases hcase with ⟨_, hno, _⟩ | ⟨rfl, m0, S', hm0, hp, hs⟩
            · exact absurd HS1.out (hno _ HS0.out)
            · have HM4 := HM.out.kept hk2
              obtain ⟨w5, hrun, hm5, hgr⟩ := HM4.put (1 + y) ⟨by omega, by omega⟩ HT.out.2 (by omega)
              have HS5 := Lib.hid (st_map hs hgr HM4.obj)
              have HM5 := Lib.hid hm5
              have HB5 := Lib.hid ((HB.out.trans (hb.mono HBW.out)).grown hgr (HB.out.trans (hb.mono HBW.out)).size (fun k hk => by injection hk with e; rw [← e]; exact HMB.out))
              have HL5 := Lib.hid (left_drop HL.out hm0 hp)
              clear hb hk2 hm0 hp hs HM4 hm5 hgr hl
              go_wp2_with fail
              go_roundw
              case rel => exact ⟨i + 1, S', (1 + y) :: G, by rw [← HML.out]; omega, by go_num, HL5.out, HS5.out, HM5.out, HB5.out⟩
              case measure => simp [intOf]; omega
          · have hnot := left_not HL.out (k := 1 + y) (by rw [← HNL.out]; by_cases h1 : 1 + y ≤ (k : Int); exact .inr (Classical.byContradiction fun h2 => ht ⟨h1, h2⟩); exact .inl h1)
            have HNOT := Lib.hid hnot
            have key : ∀ (there : Bool), (there = true → False) → True := fun _ _ => trivial
            clear hnot key
            by_cases h1 : 1 + y ≤ (k : Int)
            · have t1 : decide (1 + y ≤ (k : Int)) = true := decide_eq_true h1
              have hin : 1 + y ∈ G := Classical.byContradiction fun h2 => ht ⟨h1, h2⟩
              rw [decide_eq_true hin] at hl
              clear ht h1 hin
              go_wp2_with fail
              refine HD.out.mono ?_
              rintro e w4 ⟨hb, hk2, hcase⟩
              rcases hcase with ⟨rfl, _, hs⟩ | ⟨rfl, m0, S', hm0, hp, hs⟩
              · have HS4 := Lib.hid hs
                have HM4 := Lib.hid (HM.out.kept hk2)
                have HB4 := Lib.hid (HB.out.trans (hb.mono HBW.out))
                clear hb hk2 hs hl
                go_wp2_with fail
                go_roundw
                case rel => exact ⟨i + 1, S, G, by rw [← HML.out]; omega, by go_num, HL.out, HS4.out, HM4.out, HB4.out⟩
                case measure => simp [intOf]; omega
              · exact absurd hm0 (HNOT.out m0 (hp.mem_iff.1 (List.mem_cons_self ..)))
            · have t1 : decide (1 + y ≤ (k : Int)) = false := decide_eq_false h1
              clear ht h1
              go_wp2_with fail
              refine HD.out.mono ?_
              rintro e w4 ⟨hb, hk2, hcase⟩
              rcases hcase with ⟨rfl, _, hs⟩ | ⟨rfl, m0, S', hm0, hp, hs⟩
              · have HS4 := Lib.hid hs
                have HM4 := Lib.hid (HM.out.kept hk2)
                have HB4 := Lib.hid (HB.out.trans (hb.mono HBW.out))
                clear hb hk2 hs hl
                go_wp2_with fail
                go_roundw
                case rel => exact ⟨i + 1, S, G, by rw [← HML.out]; omega, by go_num, HL.out, HS4.out, HM4.out, HB4.out⟩
                case measure => simp [intOf]; omega
              · exact absurd hm0 (HNOT.out m0 (hp.mem_iff.1 (List.mem_cons_self ..)))
        · obtain rfl : i = m := by omega
          have hd2 : decide ((i : Int) < (i : Int)) = false := decide_eq_false (by omega)
          go_wp2_with fail
          go_loopw [15, 16, 87] (fun nv lv kv wy => DGetRel w B xs G g mb nv lv kv wy) (fun _ _ kv _ => k - (intOf kv).toNat)
          case atStart => exact ⟨0, -1, 0, S, by omega, rfl, rfl, rfl, by have := HL.out.2.2; omega, HL.out.1, fun s hs => (HL.out.2.1 s).1 hs, fun s hs => by
              obtain ⟨j, _, rfl⟩ := putS_mem ((HL.out.2.1 s).1 hs).1
              show (-1 : Int) ≤ _ % 256
              omega, HS.out, HM.out, HB.out⟩
          case round =>
            clear HS HB HM HL
            obtain ⟨i, last, now, S, hi, rfl, rfl, rfl, hl, hu, hin, hla, hs, hM, hb⟩ := hrel
            rw [← HNL.out] at hi hl
            have HS := Lib.hid hs
            have HB := Lib.hid hb
            have HM := Lib.hid hM
            have HU := Lib.hid hu
            have HIN := Lib.hid hin
            have HLA := Lib.hid hla
            have HL := Lib.hid hl
            have hSl : S.length ≤ 100 := by omega
            clear hs hb hM hu hin hla
            rcases Nat.lt_or_ge i k with g3 | g3
            · have hd3 : decide ((i : Int) < (k : Int)) = true := decide_eq_true (by omega)
              rcases Nat.eq_zero_or_pos S.length with h0 | h0
              · have HNX := Lib.hid (AgI.nextNone_st HS.out 255 (fun m hm => by have := hm.1; rw [List.eq_nil_of_length_eq_zero h0] at this; simp at this))
                have H0 := Lib.hid h0
                clear hl h0
                go_wp2_with fail
                refine HNX.out.mono ?_
                rintro e w4 ⟨rfl, hb⟩
                have hM4 := HM.out.kept (AgI.KeptT.of_below (ts := AgI.K2) hb)
                have hlen := hM4.len
                have HB4 := Lib.hid (HB.out.trans (hb.mono HB.out.size))
                have ee : ((i : Int) == (k : Int) - (G.length : Int)) = true := by rw [beq_iff_eq]; have := HL.out; have := H0.out; omega
                have ew : wrap64 ((k : Int) - (G.length : Int)) = (k : Int) - (G.length : Int) := by unfold wrap64; omega
                clear hb hM4
                go_wp2_with fail
                go_ret
                exact ⟨by simp, HB4.out⟩
              · have HNX := Lib.hid (AgI.next_st HS.out 255 h0 (by omega) (fun m hm => by
                  obtain ⟨j, _, rfl⟩ := putS_mem (HIN.out m hm.1).1
                  show xs.getD j 0 % 256 ≤ _
                  omega))
                clear hl h0
                go_wp2_with fail
                refine HNX.out.mono ?_
                rintro e w4 ⟨m1, S', rfl, hf, hx', hp, hs, hb, hk2⟩
                have hM4 := HM.out.kept hk2
                have HM4 := Lib.hid hM4
                have hin1 := HIN.out m1 hf.1
                have hla1 := HLA.out m1 hf.1
                obtain ⟨hu2, hgt2⟩ := first_lt HU.out hp hf
                have hl2 := hp.length_eq
                rw [List.length_cons] at hl2
                have HIN2 := Lib.hid (fun s (hs : s ∈ S') => HIN.out s (hp.mem_iff.1 (List.mem_cons_of_mem _ hs)))
                have HLA2 : Hid (∀ s ∈ S', m1.1 ≤ s.1) := Lib.hid (fun s hs => by have := hgt2 s hs; unfold AgI.kLt at this; omega)
                have HU2 := Lib.hid hu2
                have HS4 := Lib.hid hs
                have HB4 := Lib.hid (HB.out.trans (hb.mono HBW.out))
                have HLN : Hid (S'.length + (i + 1) + G.length = k) := Lib.hid (by have := HL.out; omega)
                obtain ⟨j, hj, hme⟩ := putS_mem hin1.1
                have hlook := hM4.look m1.2.1 (by rw [hme]; exact ⟨by show _ ≤ (j : Int) + 1; omega, by show (j : Int) + 1 < _; have := HNL.out; omega⟩)
                rw [decide_eq_false hin1.2] at hlook
                have t5 : decide (m1.1 < last) = false := decide_eq_false (by omega)
                obtain ⟨a1, a2, a3⟩ := m1
                simp only at hlook t5
                clear hf hx' hp hs hb hk2 hM4 hin1 hla1 hu2 hgt2 hl2 hj hme
                go_wp2_with fail
                go_roundw
                case rel => exact ⟨i + 1, a1, _, S', by rw [← HNL.out]; omega, by go_num, by go_num, rfl, by rw [← HNL.out]; exact HLN.out, HU2.out, HIN2.out, HLA2.out, HS4.out, HM4.out, HB4.out⟩
                case measure => simp [intOf]; omega
            · obtain rfl : i = k := by omega
              have hd3 : decide ((i : Int) < (i : Int)) = false := decide_eq_false (by omega)
              have hG0 : G = [] := List.eq_nil_of_length_eq_zero (by omega)
              subst hG0
              have hlen := HM.out.len
              have ee : ((i : Int) == (i : Int) - (([] : List Int).length : Int)) = true := by rw [beq_iff_eq]; simp
              go_wp2_with fail
              go_ret
              exact ⟨by simp, HB.out⟩

theorem agendaDrops_holds : Rows.AgendaDropsSaid := agendaDrops_of (fun v xs v' ys w h h' => by
  have k := h
  have k' := h'
  obtain ⟨p, c, rfl⟩ := k.slice
  obtain ⟨q, d, rfl⟩ := k'.slice
  by_cases h1 : 100 < xs.length ∨ 100 < ys.length
  · exact drops_many p q _ c _ d w h1
  · exact drops_some p q _ c _ d xs ys w h h' (by omega) (by omega))

end Go.Proofs.Ytffjbngelapmmab
