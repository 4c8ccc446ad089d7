/- The window's bits and the reference's list: what becomes of either is the same. -/
import Derived.Test.YtnkblihdgfhcdaaSqRef6
namespace Go.Proofs.Ytnkblihdgfhcdaa
open Go.RowKit Go.Joins

theorem pop_zero : ∀ n, Lib.popAux n 0 = 0
  | 0 => rfl
  | n + 1 => by show 0 % 2 + Lib.popAux n (0 / 2) = 0; rw [show (0 : Nat) / 2 = 0 from rfl, pop_zero n]
theorem pop_mod (j y : Nat) : Lib.popAux j (y % 2 ^ j) = Lib.popAux j y := by
  have h := pop_add j 0 y
  rw [Nat.add_zero] at h
  rw [h]
  rfl
theorem pop_next (j y : Nat) : Lib.popAux (j + 1) y = Lib.popAux j y + y / 2 ^ j % 2 := by
  rw [pop_add j 1 y, pop_mod]
  rfl
theorem pop_cut (d y : Nat) (h : d ≤ 64) : Lib.popAux 64 (y % 2 ^ d) = Lib.popAux d y := by
  have k := pop_add d (64 - d) (y % 2 ^ d)
  rw [show d + (64 - d) = 64 by omega, Nat.mod_mod, Nat.div_eq_of_lt (Nat.mod_lt _ (Nat.two_pow_pos d)), pop_zero, pop_mod] at k
  exact k
theorem pop_le : ∀ (j y : Nat), Lib.popAux j y ≤ j
  | 0, _ => Nat.le_refl _
  | j + 1, y => by
    have h1 := pop_le j y
    rw [pop_next]
    omega
theorem bit_div (c lo j : Nat) : c / 2 ^ lo / 2 ^ j % 2 = bitN c (lo + j) := by
  unfold bitN
  rw [Nat.and_one_is_mod, Nat.div_div_eq_div_mul, ← Nat.pow_add]
theorem wrap_wrap (a b : Int) : wrap64 (wrap64 a + b) = wrap64 (a + b) := by unfold wrap64; omega
theorem lost_eq {had : List Int} {c lo len : Nat} {lost : Int} (hl : wrap64 lost = lost) (hb : ∀ x : Nat, x < len → (bitN c x = 1 ↔ (x : Int) ∈ had)) : ∀ j, lo + j ≤ len → lostF had (lo : Int) lost j = wrap64 (lost + ((j : Int) - (Lib.popAux j (c / 2 ^ lo) : Int)))
  | 0, _ => by
    show lost = wrap64 (lost + ((0 : Int) - ((0 : Nat) : Int)))
    rw [show lost + ((0 : Int) - ((0 : Nat) : Int)) = lost by omega, hl]
  | j + 1, h => by
    have ih := lost_eq (lo := lo) hl hb j (by omega)
    have hx := hb (lo + j) (by omega)
    rw [show ((lo + j : Nat) : Int) = (lo : Int) + (j : Int) by omega] at hx
    rw [pop_next, bit_div]
    show (if (lo : Int) + (j : Int) ∈ had then lostF had lo lost j else wrap64 (lostF had lo lost j + 1)) = _
    rcases bitN_two c (lo + j) with e | e
    · rw [if_neg (fun hm => by have := hx.2 hm; omega), ih, wrap_wrap, e]
      congr 1
      omega
    · rw [if_pos (hx.1 e), ih, e]
      congr 1
      omega
theorem ones_out (c len d : Nat) (hc : c < 18446744073709551616) (hd : d ≤ 64) : ones (outN c len d) = Lib.popAux d (c / 2 ^ (len - d)) := by
  have hlt : outN c len d < 18446744073709551616 := Nat.lt_of_le_of_lt Nat.and_le_left (Nat.lt_of_le_of_lt (Nat.div_le_self _ _) hc)
  rw [ones_eq _ hlt]
  unfold outN
  rw [Nat.and_two_pow_sub_one_eq_mod, pop_cut _ _ hd]
/-- The window goes on. -/
theorem move_bits {c d x : Nat} (hx : x < 64) : bitN (moveN c d) x = 1 ↔ x = 0 ∨ (d ≤ x ∧ bitN c (x - d) = 1) := by
  rw [bitN_iff, bitN_iff]
  unfold moveN
  rw [Nat.testBit_or, show (18446744073709551616 : Nat) = 2 ^ 64 from rfl, Nat.testBit_mod_two_pow]
  rw [show c * 2 ^ d = 2 ^ d * c from Nat.mul_comm _ _, Nat.testBit_two_pow_mul]
  rw [show Nat.testBit 1 x = decide (x = 0) from by
    cases x
    · rfl
    · rename_i n
      rw [Nat.testBit_succ]
      simp]
  simp [hx]
  constructor
  · rintro (⟨h1, h2⟩ | h)
    · exact .inr ⟨h1, h2⟩
    · exact .inl h
  · rintro (h | ⟨h1, h2⟩)
    · exact .inr h
    · exact .inl ⟨h1, h2⟩
theorem mem_tkH {d : Nat} {len : Int} {had : List Int} (x : Nat) (hx : (x : Int) < len) (hb : ∀ y ∈ had, 0 ≤ y) : (x : Int) ∈ ((0 : Int) :: tkH (d : Int) len had) ↔ x = 0 ∨ (d ≤ x ∧ ((x - d : Nat) : Int) ∈ had) := by
  unfold tkH
  simp only [List.mem_cons, List.mem_map, List.mem_filter, decide_eq_true_eq]
  constructor
  · rintro (h | ⟨y, ⟨h1, h2⟩, h3⟩)
    · exact .inl (by omega)
    · have := hb y h1
      refine .inr ⟨by omega, ?_⟩
      rw [show ((x - d : Nat) : Int) = y by omega]
      exact h1
  · rintro (h | ⟨h1, h2⟩)
    · exact .inl (by omega)
    · exact .inr ⟨_, ⟨h2, by omega⟩, by omega⟩
/-- The program's state and the reference's. -/
structure RR (m : SQ) (r : RQ) : Prop where
  way : r.way = m.way
  len : r.len = m.len
  reset : r.reset = m.reset
  when : r.when = m.when
  c0 : r.c0 = m.c0
  c1 : r.c1 = m.c1
  c2 : r.c2 = m.c2
  c3 : r.c3 = m.c3
  resets : r.resets = m.resets
  lost : r.lost = m.lost
  lw : wrap64 m.lost = m.lost
  any : r.any = decide (m.come = 0)
  last : m.come ≠ 0 → r.last = m.last
  had : m.way = 0 → m.come ≠ 0 → (∀ x : Nat, (x : Int) < m.len → (bitN m.come x = 1 ↔ (x : Int) ∈ r.had)) ∧ r.had ≠ []
  hb : ∀ x ∈ r.had, 0 ≤ x ∧ x < 64
theorem RR.start {way len reset now : Int} : RR (Q0 way len reset now) (R0 way len reset now) :=
  ⟨rfl, rfl, rfl, rfl, rfl, rfl, rfl, rfl, rfl, rfl, by show wrap64 0 = 0; unfold wrap64; omega, rfl, fun h => absurd rfl h, fun _ h => absurd rfl h, fun x hx => by simp [R0] at hx⟩
theorem RR.anew {m : SQ} {r : RQ} (h : RR m r) : RR m.anew r.anew :=
  ⟨h.way, h.len, h.reset, h.when, h.c0, h.c1, h.c2, h.c3, by show wrap64 (r.resets + 1) = wrap64 (m.resets + 1); rw [h.resets], h.lost, h.lw, rfl, fun g => absurd rfl g, fun _ g => absurd rfl g, fun x hx => by simp [RQ.anew] at hx⟩
section
variable {m : SQ} {r : RQ} {now seq : Int}
theorem bit_one (x : Nat) : bitN 1 x = 1 ↔ (x : Int) ∈ [(0 : Int)] := by
  rw [bitN_iff, show Nat.testBit 1 x = decide (x = 0) from by
    cases x
    · rfl
    · rename_i n
      rw [Nat.testBit_succ]
      simp]
  simp
/-- The first number. -/
theorem RR.new (h : RR m r) (hc : m.come = 0) (h0 : 0 ≤ seq) (h1 : seq < 65536) : RR (((m.noted seq).1.count (m.noted seq).2).timed (m.noted seq).2 now) ((if m.way = 1 then ({ r with last := seq } : RQ) else { r with last := seq, had := [0] }).took 0 now) ∧ (m.noted seq).2 = 0 := by
  have e : m.noted seq = ({ m with come := 1, last := seq }, 0) := by unfold SQ.noted; rw [if_pos hc]
  rw [e]
  refine ⟨?_, rfl⟩
  rw [show (({ m with come := 1, last := seq } : SQ).count 0).timed 0 now = { m with come := 1, last := seq, c0 := wrap64 (m.c0 + 1), when := now } by simp [SQ.count, SQ.timed]]
  by_cases hw : m.way = 1
  · rw [if_pos hw]
    exact ⟨h.way, h.len, h.reset, rfl, by show wrap64 (r.c0 + 1) = _; rw [h.c0], h.c1, h.c2, h.c3, h.resets, h.lost, h.lw, rfl, fun _ => rfl, fun g => absurd g (by show m.way ≠ 0; omega), h.hb⟩
  · rw [if_neg hw]
    exact ⟨h.way, h.len, h.reset, rfl, by show wrap64 (r.c0 + 1) = _; rw [h.c0], h.c1, h.c2, h.c3, h.resets, h.lost, h.lw, rfl, fun _ => rfl, fun _ _ => ⟨fun x _ => bit_one x, by simp [RQ.took]⟩, fun x hx => by simp [RQ.took] at hx; omega⟩
theorem bitN_other {c x k : Nat} (h : x ≠ k) : bitN (c ||| 2 ^ k) x = 1 ↔ bitN c x = 1 := by
  rw [bitN_iff, bitN_iff, Nat.testBit_or, Nat.testBit_two_pow_of_ne (fun e => h e.symm), Bool.or_false]
set_option maxHeartbeats 1000000 in
theorem rin_any (h : RR m r) (g : m.Good) (p : Option Addr) (n c : Nat) (w : World) (hh : LA w (.slice p n c) r.had) (hn : n ≤ 500) (n0 : -9223372036854775808 ≤ now) (n1 : now < 9223372036854775808) (h0 : 0 ≤ seq) (h1 : seq < 65536) :
    ∃ r', Calls Try.prog 24 #[RV r (.slice p n c), .int .i64 now, .int .i64 seq] w (InPost w r' (m.told now seq) 0) ∧ RR (m.into now seq) r' ∧ r'.had.length ≤ r.had.length + 1 := by
  obtain ⟨ok0, ok1, ok2, ok3, ok4⟩ := g.ok
  have hway : r.way = 0 ∨ r.way = 1 := by rw [h.way]; exact ok0
  obtain ⟨p', c', e⟩ := hh.slice
  have hlen : r.had.length = n := by injection e with _ e _; exact e.symm
  have hlong : ∀ W, Calls Try.prog 38 #[.int .i64 now, .int .i64 r.when, .int .i64 r.reset] W fun e w' => e = .returned (.bool (decide (m.silent now))) ∧ w' = W := fun W => by
    rw [h.when, h.reset]
    exact rlong_ret now m.when m.reset W n0 n1 g.w.1 g.w.2 ok3 ok4
  unfold SQ.into SQ.told
  by_cases hc : m.come = 0
  · -- all is new
    rw [show m.fresh now = m by unfold SQ.fresh; rw [if_neg (fun k => k.1 hc)]]
    obtain ⟨k1, k2⟩ := h.new (now := now) hc h0 h1
    have ha : r.any = true := by rw [h.any]; exact decide_eq_true hc
    by_cases hw : m.way = 1
    · rw [if_pos hw] at k1
      rw [k2] at k1 ⊢
      exact ⟨_, rin_new1 r p n c now seq w hh h0 (by omega) ha (h.way.trans hw), k1, by simp [RQ.took]⟩
    · rw [if_neg hw] at k1
      rw [k2] at k1 ⊢
      exact ⟨_, rin_new0 r p n c now seq w hh h0 (by omega) ha (h.way.trans (ok0.resolve_right hw)), k1, by simp [RQ.took]⟩
  have ha : r.any = false := by rw [h.any]; exact decide_eq_false hc
  by_cases hs : m.silent now
  · -- it was silent
    have hf : m.fresh now = m.anew := by unfold SQ.fresh; rw [if_pos ⟨hc, hs⟩]
    rw [hf]
    have hL : LongYes r now := fun W => by have := hlong W; rw [decide_eq_true hs] at this; exact this
    obtain ⟨k1, k2⟩ := h.anew.new (now := now) rfl h0 h1
    by_cases hw : m.way = 1
    · rw [if_pos (show m.anew.way = 1 from hw)] at k1
      rw [k2] at k1 ⊢
      exact ⟨_, rin_silent1 r p n c now seq w h0 (by omega) ha hL (h.way.trans hw), k1, by simp [RQ.took, RQ.anew]⟩
    · rw [if_neg (show ¬ m.anew.way = 1 from hw)] at k1
      rw [k2] at k1 ⊢
      exact ⟨_, rin_silent0 r p n c now seq w h0 (by omega) ha hL (h.way.trans (ok0.resolve_right hw)), k1, by simp [RQ.took]⟩
  have hf : m.fresh now = m := by unfold SQ.fresh; rw [if_neg (fun k => hs k.2)]
  rw [hf]
  have hL : LongNo r now := fun W => by have := hlong W; rw [decide_eq_false hs] at this; exact this
  have hlast := h.last hc
  by_cases hw : m.way = 1
  · have hw1 : r.way = 1 := h.way.trans hw
    by_cases hq : seq = m.last
    · have en : m.noted seq = (m, 1) := by unfold SQ.noted; rw [if_neg hc, if_pos hw, if_pos hq]
      rw [en]
      refine ⟨_, rin_match1 r p n c now seq w hh h0 (by omega) ha hL hw1 (by rw [hlast, hq]), ?_, by simp [RQ.took]⟩
      rw [show (m.count 1).timed 1 now = { m with c1 := wrap64 (m.c1 + 1) } by simp [SQ.count, SQ.timed]]
      exact ⟨h.way, h.len, h.reset, h.when, h.c0, by show wrap64 (r.c1 + 1) = _; rw [h.c1], h.c2, h.c3, h.resets, h.lost, h.lw, h.any, h.last, h.had, h.hb⟩
    · have en : m.noted seq = ({ m with last := seq }, 0) := by unfold SQ.noted; rw [if_neg hc, if_pos hw, if_neg hq]
      rw [en]
      refine ⟨_, rin_match0 r p n c now seq w hh h0 (by omega) ha hL hw1 (by rw [hlast]; exact fun e => hq e.symm), ?_, by simp [RQ.took]⟩
      rw [show (({ m with last := seq } : SQ).count 0).timed 0 now = { m with last := seq, c0 := wrap64 (m.c0 + 1), when := now } by simp [SQ.count, SQ.timed]]
      exact ⟨h.way, h.len, h.reset, rfl, by show wrap64 (r.c0 + 1) = _; rw [h.c0], h.c1, h.c2, h.c3, h.resets, h.lost, h.lw, by show false = decide (m.come = 0); rw [decide_eq_false hc], fun _ => rfl, fun g => absurd g (by show m.way ≠ 0; omega), h.hb⟩
  have hw0 : m.way = 0 := ok0.resolve_right hw
  have hw1 : r.way = 0 := h.way.trans hw0
  obtain ⟨hhad, hne⟩ := h.had hw0 hc
  have hpos : 0 < n := by rw [← hlen]; exact List.length_pos_iff.2 hne
  have hA := ahead_le seq m.last
  have hD : ∀ D, ahead seq m.last = D → AheadIs seq r.last D := fun D hD W => by
    have := rahead_ret seq r.last W h0 h1 (by rw [hlast]; exact g.l0) (by rw [hlast]; exact g.l1)
    rw [hlast, hD] at this
    rw [hlast]
    exact this
  have hl1 : 1 ≤ r.len ∧ r.len ≤ 64 := by rw [h.len]; exact ⟨ok1, ok2⟩
  by_cases hr : m.len ≤ ahead seq m.last ∨ ahead seq m.last ≤ -m.len
  · have en : m.noted seq = (m, 2) := by unfold SQ.noted; rw [if_neg hc, if_neg hw, if_pos hr]
    rw [en]
    refine ⟨_, rin_rogue r p n c now seq w hh h0 (by omega) _ ha hL (hD _ rfl) hw1 hl1 (by rw [h.len]; exact hr), ?_, by simp [RQ.took]⟩
    rw [show (m.count 2).timed 2 now = { m with c2 := wrap64 (m.c2 + 1) } by simp [SQ.count, SQ.timed]]
    exact ⟨h.way, h.len, h.reset, h.when, h.c0, h.c1, by show wrap64 (r.c2 + 1) = _; rw [h.c2], h.c3, h.resets, h.lost, h.lw, h.any, h.last, h.had, h.hb⟩
  by_cases hp : 0 < ahead seq m.last
  · obtain ⟨d, hd⟩ : ∃ d : Nat, ahead seq m.last = (d : Int) := ⟨(ahead seq m.last).toNat, by omega⟩
    have en : m.noted seq = ({ m.moved d with last := seq }, 0) := by
      unfold SQ.noted; rw [if_neg hc, if_neg hw, if_neg hr, if_pos hp, hd]; rfl
    rw [en]
    have hdl : (d : Int) < m.len := by omega
    obtain ⟨N, hN⟩ : ∃ N : Nat, m.len = (N : Int) := ⟨m.len.toNat, by omega⟩
    refine ⟨_, rin_taken r p n c now seq w hh h0 (by omega) d ha hL (hD _ hd) hw1 hl1 ⟨by rw [h.len]; exact hdl, by omega⟩ hn h.hb, ?_, ?_⟩
    · rw [show (({ m.moved d with last := seq } : SQ).count 0).timed 0 now = { m.moved d with last := seq, c0 := wrap64 (m.c0 + 1), when := now } by simp [SQ.count, SQ.timed, SQ.moved]]
      have hlost : lostF r.had (r.len - (d : Int)) r.lost d = (m.moved d).lost := by
        rw [h.len, h.lost, hN, show (N : Int) - (d : Int) = ((N - d : Nat) : Int) by omega, lost_eq (len := N) h.lw (fun x hx => hhad x (by rw [hN]; omega)) d (by omega)]
        show _ = wrap64 (m.lost + ((d : Int) - (ones (outN m.come m.len.toNat d) : Int)))
        rw [hN, Int.toNat_natCast, ones_out m.come N d g.come (by omega)]
      refine ⟨h.way, h.len, h.reset, rfl, by show wrap64 (r.c0 + 1) = _; rw [h.c0], h.c1, h.c2, h.c3, h.resets, hlost, ?_, ?_, fun _ => rfl, fun _ _ => ⟨fun x hx => ?_, by simp [RQ.took]⟩, fun x hx => ?_⟩
      · show wrap64 (wrap64 _) = wrap64 _
        unfold wrap64; omega
      · show false = decide (moveN m.come d = 0)
        rw [decide_eq_false]
        intro hz
        have := (move_bits (c := m.come) (d := d) (x := 0) (by omega)).2 (.inl rfl)
        rw [hz] at this
        simp [bitN] at this
      · have hx2 : (x : Int) < m.len := hx
        show bitN (moveN m.come d) x = 1 ↔ (x : Int) ∈ (0 : Int) :: tkH (d : Int) r.len r.had
        rw [move_bits (by omega), mem_tkH x (by rw [h.len]; exact hx2) (fun y hy => (h.hb y hy).1)]
        constructor
        · rintro (h | ⟨h1, h2⟩)
          · exact .inl h
          · exact .inr ⟨h1, (hhad _ (by omega)).1 h2⟩
        · rintro (h | ⟨h1, h2⟩)
          · exact .inl h
          · exact .inr ⟨h1, (hhad _ (by omega)).2 h2⟩
      · have hx2 : x ∈ (0 : Int) :: tkH (d : Int) r.len r.had := hx
        rcases List.mem_cons.1 hx2 with rfl | hx3
        · exact ⟨by omega, by omega⟩
        · unfold tkH at hx3
          simp only [List.mem_map, List.mem_filter, decide_eq_true_eq] at hx3
          obtain ⟨y, ⟨h1, h2⟩, rfl⟩ := hx3
          have := h.hb y h1
          exact ⟨by omega, by omega⟩
    · have := tkH_len (d : Int) r.len r.had
      show ((0 : Int) :: tkH (d : Int) r.len r.had).length ≤ _
      rw [List.length_cons]
      omega
  obtain ⟨k, hk⟩ : ∃ k : Nat, ahead seq m.last = -(k : Int) := ⟨(-ahead seq m.last).toNat, by omega⟩
  have hkk : (-ahead seq m.last).toNat = k := by omega
  have hkl : (k : Int) < m.len := by omega
  by_cases hb : bitN m.come k = 1
  · have en : m.noted seq = (m, 1) := by unfold SQ.noted; rw [if_neg hc, if_neg hw, if_neg hr, if_neg hp, hkk, if_pos hb]
    rw [en]
    refine ⟨_, rin_again r p n c now seq w hh h0 (by omega) _ ha hL (hD _ rfl) hw1 hl1 ⟨by rw [h.len]; omega, by omega⟩ (by rw [hk, Int.neg_neg]; exact (hhad k hkl).1 hb) (by omega), ?_, by simp [RQ.took]⟩
    rw [show (m.count 1).timed 1 now = { m with c1 := wrap64 (m.c1 + 1) } by simp [SQ.count, SQ.timed]]
    exact ⟨h.way, h.len, h.reset, h.when, h.c0, by show wrap64 (r.c1 + 1) = _; rw [h.c1], h.c2, h.c3, h.resets, h.lost, h.lw, h.any, h.last, h.had, h.hb⟩
  · have en : m.noted seq = ({ m with come := m.come ||| 2 ^ k }, 3) := by unfold SQ.noted; rw [if_neg hc, if_neg hw, if_neg hr, if_neg hp, hkk, if_neg hb]
    rw [en]
    refine ⟨_, rin_late r p n c now seq w hh h0 (by omega) (ahead seq m.last) ha hL (hD _ rfl) hw1 hl1 ⟨by rw [h.len]; omega, by omega⟩ (by rw [hk, Int.neg_neg]; exact fun hm => hb ((hhad k hkl).2 hm)) hn hpos, ?_, by simp [RQ.took]⟩
    rw [show (({ m with come := m.come ||| 2 ^ k } : SQ).count 3).timed 3 now = { m with come := m.come ||| 2 ^ k, c3 := wrap64 (m.c3 + 1), when := now } by simp [SQ.count, SQ.timed]]
    rw [hk, Int.neg_neg]
    refine ⟨h.way, h.len, h.reset, rfl, h.c0, h.c1, h.c2, by show wrap64 (r.c3 + 1) = _; rw [h.c3], h.resets, h.lost, h.lw, ?_, fun _ => h.last hc, fun _ _ => ⟨fun x hx => ?_, by simp [RQ.took]⟩, fun x hx => ?_⟩
    · show false = decide (m.come ||| 2 ^ k = 0)
      rw [decide_eq_false]
      intro hz
      have := bitN_or m.come k
      rw [hz] at this
      simp [bitN] at this
    · have hx2 : (x : Int) < m.len := hx
      show bitN (m.come ||| 2 ^ k) x = 1 ↔ (x : Int) ∈ r.had ++ [(k : Int)]
      rw [List.mem_append, List.mem_singleton]
      by_cases e : x = k
      · subst e
        exact ⟨fun _ => .inr rfl, fun _ => bitN_or _ _⟩
      · rw [bitN_other e, hhad x hx2]
        constructor
        · exact fun h => .inl h
        · rintro (h | h)
          · exact h
          · omega
    · have hx2 : x ∈ r.had ++ [(k : Int)] := hx
      rcases List.mem_append.1 hx2 with h3 | h3
      · exact h.hb x h3
      · rw [List.mem_singleton] at h3
        omega
end

end Go.Proofs.Ytnkblihdgfhcdaa
