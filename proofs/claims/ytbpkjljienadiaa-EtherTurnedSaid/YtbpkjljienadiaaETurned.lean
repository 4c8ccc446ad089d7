/- EtherTurned: one bit of a frame that is turned makes it none. -/
import Derived.Test.YtbpkjljienadiaaEForm
import Derived.Test.YtbpkjljienadiaaEFlip
namespace Go.Proofs.Ytbpkjljienadiaa
open Go.RowKit Go.Joins

theorem turned_long (f : Fr) (p : Option Addr) (n c : Nat) (a : Int) (hn : 1600 < n) (w : World) :
    Calls Try.prog 7 #[FV f (.slice p n c), .int .i64 a] w fun e w' => e = .returned (.bool true) ∧ Below w.heap.size w w' := by
  have HH := head_ret
  have HB0 : Hid (Boxed (w.alloc (.cells (FC f (.slice p n c)) 26)) w.heap.size f (.slice p n c)) := Lib.hid (heap_alloc_new w _)
  unfold FC at HB0
  unfold FV
  go_enter Try.func7, Try.ntmps7
  go_wp2_with (go_at_call 9; (with_reducible refine (HH.go _).mono ?_); rintro e w1 ⟨rfl, hb⟩; have c19 := (HB0.out.below hb).c19; have HB := Lib.hid (bTr (bAl (bRef w) _) hb); clear hb)
  go_ret
  exact ⟨rfl, HB.out⟩

theorem turned_none (f : Fr) (p : Option Addr) (n c x : Nat) (a : Int) (hn : n ≤ 1600) (w : World) (hx : (((x : Nat) : Int) != 0) = true)
    (HE : Hid (∀ wx, Below w.heap.size w wx → Calls Try.prog 11 #[FV f (.slice p n c)] wx fun e w' => e = .returned (.tuple #[.slice none 0 0, .int .i64 (x : Int)]) ∧ Below wx.heap.size wx w')) :
    Calls Try.prog 7 #[FV f (.slice p n c), .int .i64 a] w fun e w' => e = .returned (.bool true) ∧ Below w.heap.size w w' := by
  have HH := head_ret
  have HB0 : Hid (Boxed (w.alloc (.cells (FC f (.slice p n c)) 26)) w.heap.size f (.slice p n c)) := Lib.hid (heap_alloc_new w _)
  unfold FC at HB0
  unfold FV at HE ⊢
  go_enter Try.func7, Try.ntmps7
  go_wp2_with (first
    | (with_reducible refine at_loadF ?_; refine wpList_loadF rfl _ rfl w.heap.size rfl _ _ HX.out rfl ?_)
    | (go_at_call 9; (with_reducible refine (HH.go _).mono ?_); rintro e w1 ⟨rfl, hb⟩; have HX := Lib.hid (HB0.out.below hb); have c19 := HX.out.c19; unfold Boxed FC at HX; have HB := Lib.hid (bTr (bAl (bRef w) _) hb); clear hb)
    | (go_at_call 11; (with_reducible refine (HE.out _ HB.out).mono ?_); rintro e w2 ⟨rfl, hb⟩; replace HB := Lib.hid (bTr HB.out hb); clear hb))
  go_ret
  exact ⟨rfl, HB.out⟩

set_option maxHeartbeats 1000000 in
theorem turned_ok (f : Fr) (p : Option Addr) (n c L a0 q : Nat) (a : Int) (cs : List Nat) (hn : n ≤ 1600) (w : World) (hL : cs.length = L) (hL1 : 64 ≤ L) (hL2 : L ≤ 1600)
    (ha : bits BinOp.and IntKind.i64 a 65535 = (a0 : Int)) (hq : (a0 : Int) % (8 * (L : Int)) = (q : Int)) (hq1 : q < 8 * L) (ha0 : a0 < 65536)
    (HE : Hid (∀ wx, Below w.heap.size w wx → Calls Try.prog 11 #[FV f (.slice p n c)] wx fun e w' => ∃ g d, e = .returned (.tuple #[.slice (some ⟨g, 0, none⟩) L d, .int .i64 0]) ∧ L ≤ d ∧ OwnB wx w' (.slice (some ⟨g, 0, none⟩) L d) cs))
    (HD : Hid (∀ (wx : World) (v : Value), BArg wx v (Crc.flip cs q) → Calls Try.prog 16 #[v] wx fun e w' => e = .returned (.tuple #[.agg ZC, .int .i64 22]) ∧ Below wx.heap.size wx w')) :
    Calls Try.prog 7 #[FV f (.slice p n c), .int .i64 a] w fun e w' => e = .returned (.bool true) ∧ Below w.heap.size w w' := by
  have HH := head_ret
  have HB0 : Hid (Boxed (w.alloc (.cells (FC f (.slice p n c)) 26)) w.heap.size f (.slice p n c)) := Lib.hid (heap_alloc_new w _)
  have HLn := Lib.hid hL
  have hp8 := pow8_lt q
  clear hL
  unfold FC at HB0
  unfold FV at HE ⊢
  go_enter Try.func7, Try.ntmps7
  go_wp2_with (first
    | (with_reducible refine at_loadF ?_; refine wpList_loadF rfl _ rfl w.heap.size rfl _ _ HX.out rfl ?_)
    | (with_reducible refine at_storeF ?_; refine wpList_storeN rfl _ _ rfl ZC _ rfl rfl ZC_one rfl rfl ?_; have c18 := zero18 w5; have c19' := zero19 w5)
    | (go_at_call 9; (with_reducible refine (HH.go _).mono ?_); rintro e w1 ⟨rfl, hb⟩; have HX := Lib.hid (HB0.out.below hb); have c19 := HX.out.c19; unfold Boxed FC at HX; have HB := Lib.hid (bTr (bAl (bRef w) _) hb); clear hb)
    | (go_at_call 11; (with_reducible refine (HE.out _ HB.out).mono ?_); rintro e w4 ⟨g4, c4, rfl, hc4, hown⟩; have HO := Lib.hid hown; have hcell := HO.out.cell (k := q / 8) (by rw [HLn.out]; omega); have hfr := HO.out.frozen (q / 8); have hx := Crc.getD_byte HO.out.2.2.1 (q / 8); clear hown; obtain ⟨x, hxe⟩ : ∃ x, x = cs.getD (q / 8) 0 := ⟨_, rfl⟩; rw [← hxe] at hcell hx; have Hxe := Lib.hid hxe; clear hxe; have hxo := u8_flip x q hx; have hlt := Crc.xor_lt8 x (2 ^ (q % 8)) hx hp8; obtain ⟨y, hy⟩ : ∃ y, y = x ^^^ 2 ^ (q % 8) := ⟨_, rfl⟩; rw [← hy] at hxo hlt; have Hy := Lib.hid hy; clear hy)
    | (go_at_call 16; (with_reducible refine (HD.out _ _ (own_eq (HO.out.set hlt) (flip_eq Hy.out Hxe.out)).arg).mono ?_); rintro e w5 ⟨rfl, hb⟩; have HB5 := Lib.hid (bTr (bTr HB.out (HO.out.set (k := q / 8) hlt).bel) hb); clear hb))
  go_ret
  exact ⟨rfl, bAl HB5.out _⟩

theorem dec_flip {cs : List Nat} {q : Nat} (hb : Crc.Bytes cs) (h1 : 64 ≤ cs.length) (h2 : cs.length ≤ 1600) (hq : q < 8 * cs.length) (hw : Crc.wrong cs = 0) : Fr.dchk (Crc.flip cs q) = 22 := by
  have e := Crc.opens_flip (l := cs) (p := q) (by omega) hq
  have hl : (Crc.flip cs q).length = cs.length := Crc.flip_len cs q
  have e2 : Crc.opens (Crc.flip cs q) = false := by
    rw [e, hw, beq_eq_false_iff_ne]
    exact fun h => Crc.T_high_ne _ h.symm
  unfold Fr.dchk
  rw [hl, if_neg (by omega), if_neg (by omega), if_pos e2]

theorem turned_walk (f : Fr) (u : Value) (a : Int) (w : World) (hw : f.Wf) (h : BArg w u f.data) (_ : -9223372036854775808 ≤ a) (_ : a < 9223372036854775808) :
    Calls Try.prog 7 #[FV f u, .int .i64 a] w fun e w' => e = .returned (.bool true) ∧ Below w.heap.size w w' := by
  obtain ⟨p, c, rfl⟩ := h.slice
  rcases Nat.lt_or_ge 1600 f.data.length with hn | hn
  · exact turned_long f p _ c a hn w
  have he := fun (wx : World) (hb : Below w.heap.size w wx) => encode_any f _ wx hw (by omega) (h.below hb)
  by_cases h0 : f.chk = 0
  · have hz := Fr.chk_zero.1 h0
    have hs := f.size_ge
    have hlen : (Crc.close f.text).length = f.size := by rw [Crc.close_len, Fr.text_len]; omega
    have hcb := Crc.close_bytes _ (Fr.text_bytes hw)
    have ha := and_low a 16 (by omega)
    change bits .and .i64 a 65535 = a % 65536 at ha
    have hq1 : (a % 65536).toNat % (8 * f.size) < 8 * f.size := Nat.mod_lt _ (by omega)
    refine turned_ok f p _ c f.size (a % 65536).toNat ((a % 65536).toNat % (8 * f.size)) a (Crc.close f.text) hn w hlen hs hz.2.2.2 (by rw [ha]; omega) (by rw [Int.natCast_emod, show ((8 * f.size : Nat) : Int) = 8 * (f.size : Int) by omega]) hq1 (by omega)
      (Lib.hid fun wx hb => Calls.mono (he wx hb) fun e w' hh => ?_) (Lib.hid fun wx v hv => (decode_any hv).mono fun e w' hh => ?_)
    · rcases hh with ⟨_, v, rfl, hown⟩ | ⟨h1, _⟩
      · obtain ⟨g, d, rfl, hd, _⟩ := hown.form
        rw [hlen] at hd hown ⊢
        exact ⟨g, d, rfl, hd, hown⟩
      · exact absurd h0 h1
    · have hd := dec_flip hcb (by omega) (by omega) (by rw [hlen]; exact hq1) (Crc.wrong_close _ (Fr.text_bytes hw))
      obtain ⟨hb, hh⟩ := hh
      rcases hh with ⟨h1, _⟩ | ⟨_, e1⟩
      · rw [hd] at h1; cases h1
      · rw [hd] at e1; exact ⟨e1, hb⟩
  · refine turned_none f p _ c f.chk a hn w (bne_of h0) (Lib.hid fun wx hb => Calls.mono (he wx hb) fun e w' hh => ?_)
    rcases hh with ⟨h1, _⟩ | ⟨_, h2⟩
    · exact absurd h1 h0
    · exact h2

end Go.Proofs.Ytbpkjljienadiaa
