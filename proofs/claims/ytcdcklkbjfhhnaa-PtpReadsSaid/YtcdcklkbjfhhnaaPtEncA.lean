/- Package ptp: Encode, whole. -/
import Derived.Test.YtcdcklkbjfhhnaaPtEnc
namespace Go.Proofs.Ytcdcklkbjfhhnaa
open Go.RowKit Go.Joins

theorem kindB_iff {k : Int} : kindB k = true ↔ k = 0 ∨ k = 2 ∨ k = 3 ∨ k = 8 ∨ k = 10 ∨ k = 11 := by unfold kindB; exact decide_eq_true_iff
/-- What a right message has. -/
structure Mg.Right (m : Mg) : Prop where
  kind : m.kind = 0 ∨ m.kind = 2 ∨ m.kind = 3 ∨ m.kind = 8 ∨ m.kind = 10 ∨ m.kind = 11
  w1 : winB 127 [m.dom] = true
  w2 : winB 65535 [m.seq, m.port, m.tp] = true
  w3 : winB 281474976710655 [m.src, m.tw, m.id] = true
  w4 : winB 255 [m.one, m.cls, m.two, m.steps] = true
  bes : m.besB = false
  few : m.path.length ≤ 32
  w5 : winB 281474976710655 m.path = true
theorem Mg.chk_zero {m : Mg} : m.chk = 0 ↔ m.Right := by
  unfold Mg.chk
  constructor
  · intro h
    split at h
    · split at h
      · split at h
        · simp at h
        · split at h
          · rename_i a b c d
            simp only [Bool.and_eq_true, Bool.not_eq_true', and_assoc] at b
            obtain ⟨b1, b2, b3, b4, b5⟩ := b
            exact ⟨kindB_iff.1 a, b1, b2, b3, b4, b5, by omega, d⟩
          · simp at h
      · simp at h
    · simp at h
  · rintro ⟨a, b1, b2, b3, b4, b5, c, d⟩
    rw [if_pos (kindB_iff.2 a), if_pos (by rw [b1, b2, b3, b4, b5]; rfl), if_neg (by omega), if_pos d]
theorem Mg.head_len (m : Mg) : m.head.length = 20 := by
  unfold Mg.head; simp only [List.length_append, bes_len, List.length_cons, List.length_nil]
theorem Mg.text_ne (m : Mg) : m.text ≠ [] := fun e => by
  have h := m.head_len
  unfold Mg.text at e
  rw [List.append_eq_nil_iff] at e
  rw [e.1] at h; simp at h
theorem in64_lit (x : Int) (h1 : -9223372036854775808 ≤ x) (h2 : x < 9223372036854775808) : In64 x := ⟨h1, h2⟩

set_option maxHeartbeats 4000000 in
/-- Encode. -/
theorem encode_any (m : Mg) (v : Value) (w : World) (hw : m.Wf) (hA : LArg w v m.path) (hl : m.path.length ≤ 140737488355328) :
    Calls Try.prog 9 #[MV m v] w (EncPost w m) := by
  obtain ⟨p, c, rfl⟩ := hA.slice
  have HC := fun (wx : World) (hb : Below w.heap.size w wx) => check_any m (.slice p m.path.length c) wx hw (hA.below hb) hl
  by_cases h0 : m.chk = 0
  · rw [h0] at HC
    have hr := Mg.chk_zero.1 h0
    have key : Calls Try.prog 9 #[MV m (.slice p m.path.length c)] w fun e w' => ∃ v, e = .returned (.tuple #[v, .int .i64 0]) ∧ OwnN w w' v m.text := by
      have hfew := hr.few
      have hk := hr.kind
      clear hr h0
      obtain ⟨kind, dom, seq, src, port, corr, time, tw, tp, rate, one, cls, two, id, steps, path⟩ := m
      obtain ⟨ikind, idom, iseq, isrc, iport, icorr, itime, itw, itp, irate, ione, icls, itwo, iid, isteps, ipath⟩ := hw
      unfold MV at HC ⊢
      dsimp only at *
      rcases hk with rfl | rfl | rfl | rfl | rfl | rfl
      · refine (enc_0 dom seq src port corr time tw tp rate one cls two id steps path _ _ _ _ _ p _ c w (Lib.hid HC)
          (Lib.hid ((putAt w 1 [16, dom] _ 2 rfl (by simp only [List.mem_cons, List.not_mem_nil, or_false]; rintro y (rfl | rfl) <;> first | assumption | exact in64_lit _ (by omega) (by omega)) rfl (by omega) (by omega) (by omega)).to (by simp [bes_len]) rfl))
          (Lib.hid ((putAt w 2 [seq] _ 1 rfl (by simp only [List.mem_cons, List.not_mem_nil, or_false]; rintro y (rfl) <;> first | assumption | exact in64_lit _ (by omega) (by omega)) rfl (by omega) (by omega) (by omega)).to (by simp [bes_len]) rfl))
          (Lib.hid ((putAt w 6 [src] _ 1 rfl (by simp only [List.mem_cons, List.not_mem_nil, or_false]; rintro y (rfl) <;> first | assumption | exact in64_lit _ (by omega) (by omega)) rfl (by omega) (by omega) (by omega)).to (by simp [bes_len]) rfl))
          (Lib.hid ((putAt w 2 [port] _ 1 rfl (by simp only [List.mem_cons, List.not_mem_nil, or_false]; rintro y (rfl) <;> first | assumption | exact in64_lit _ (by omega) (by omega)) rfl (by omega) (by omega) (by omega)).to (by simp [bes_len]) rfl))
          (Lib.hid ((putAt w 8 [corr] _ 1 rfl (by simp only [List.mem_cons, List.not_mem_nil, or_false]; rintro y (rfl) <;> first | assumption | exact in64_lit _ (by omega) (by omega)) rfl (by omega) (by omega) (by omega)).to (by simp [bes_len]) rfl))).mono fun e w' h => ?_
        obtain ⟨v, h1, h2⟩ := h
        exact ⟨v, h1, ownN_eq h2 (by simp [Mg.text, Mg.head, Mg.tail])⟩
      · refine (enc_2 dom seq src port corr time tw tp rate one cls two id steps path _ _ _ _ _ p _ c w (Lib.hid HC)
          (Lib.hid ((putAt w 1 [18, dom] _ 2 rfl (by simp only [List.mem_cons, List.not_mem_nil, or_false]; rintro y (rfl | rfl) <;> first | assumption | exact in64_lit _ (by omega) (by omega)) rfl (by omega) (by omega) (by omega)).to (by simp [bes_len]) rfl))
          (Lib.hid ((putAt w 2 [seq] _ 1 rfl (by simp only [List.mem_cons, List.not_mem_nil, or_false]; rintro y (rfl) <;> first | assumption | exact in64_lit _ (by omega) (by omega)) rfl (by omega) (by omega) (by omega)).to (by simp [bes_len]) rfl))
          (Lib.hid ((putAt w 6 [src] _ 1 rfl (by simp only [List.mem_cons, List.not_mem_nil, or_false]; rintro y (rfl) <;> first | assumption | exact in64_lit _ (by omega) (by omega)) rfl (by omega) (by omega) (by omega)).to (by simp [bes_len]) rfl))
          (Lib.hid ((putAt w 2 [port] _ 1 rfl (by simp only [List.mem_cons, List.not_mem_nil, or_false]; rintro y (rfl) <;> first | assumption | exact in64_lit _ (by omega) (by omega)) rfl (by omega) (by omega) (by omega)).to (by simp [bes_len]) rfl))
          (Lib.hid ((putAt w 8 [corr] _ 1 rfl (by simp only [List.mem_cons, List.not_mem_nil, or_false]; rintro y (rfl) <;> first | assumption | exact in64_lit _ (by omega) (by omega)) rfl (by omega) (by omega) (by omega)).to (by simp [bes_len]) rfl))).mono fun e w' h => ?_
        obtain ⟨v, h1, h2⟩ := h
        exact ⟨v, h1, ownN_eq h2 (by simp [Mg.text, Mg.head, Mg.tail])⟩
      · refine (enc_3 dom seq src port corr time tw tp rate one cls two id steps path _ _ _ _ _ _ _ _ p _ c w (Lib.hid HC)
          (Lib.hid ((putAt w 1 [19, dom] _ 2 rfl (by simp only [List.mem_cons, List.not_mem_nil, or_false]; rintro y (rfl | rfl) <;> first | assumption | exact in64_lit _ (by omega) (by omega)) rfl (by omega) (by omega) (by omega)).to (by simp [bes_len]) rfl))
          (Lib.hid ((putAt w 2 [seq] _ 1 rfl (by simp only [List.mem_cons, List.not_mem_nil, or_false]; rintro y (rfl) <;> first | assumption | exact in64_lit _ (by omega) (by omega)) rfl (by omega) (by omega) (by omega)).to (by simp [bes_len]) rfl))
          (Lib.hid ((putAt w 6 [src] _ 1 rfl (by simp only [List.mem_cons, List.not_mem_nil, or_false]; rintro y (rfl) <;> first | assumption | exact in64_lit _ (by omega) (by omega)) rfl (by omega) (by omega) (by omega)).to (by simp [bes_len]) rfl))
          (Lib.hid ((putAt w 2 [port] _ 1 rfl (by simp only [List.mem_cons, List.not_mem_nil, or_false]; rintro y (rfl) <;> first | assumption | exact in64_lit _ (by omega) (by omega)) rfl (by omega) (by omega) (by omega)).to (by simp [bes_len]) rfl))
          (Lib.hid ((putAt w 8 [corr] _ 1 rfl (by simp only [List.mem_cons, List.not_mem_nil, or_false]; rintro y (rfl) <;> first | assumption | exact in64_lit _ (by omega) (by omega)) rfl (by omega) (by omega) (by omega)).to (by simp [bes_len]) rfl))
          (Lib.hid ((putAt w 8 [time] _ 1 rfl (by simp only [List.mem_cons, List.not_mem_nil, or_false]; rintro y (rfl) <;> first | assumption | exact in64_lit _ (by omega) (by omega)) rfl (by omega) (by omega) (by omega)).to (by simp [bes_len]) rfl))
          (Lib.hid ((putAt w 6 [tw] _ 1 rfl (by simp only [List.mem_cons, List.not_mem_nil, or_false]; rintro y (rfl) <;> first | assumption | exact in64_lit _ (by omega) (by omega)) rfl (by omega) (by omega) (by omega)).to (by simp [bes_len]) rfl))
          (Lib.hid ((putAt w 2 [tp] _ 1 rfl (by simp only [List.mem_cons, List.not_mem_nil, or_false]; rintro y (rfl) <;> first | assumption | exact in64_lit _ (by omega) (by omega)) rfl (by omega) (by omega) (by omega)).to (by simp [bes_len]) rfl))).mono fun e w' h => ?_
        obtain ⟨v, h1, h2⟩ := h
        exact ⟨v, h1, ownN_eq h2 (by simp [Mg.text, Mg.head, Mg.tail])⟩
      · refine (enc_8 dom seq src port corr time tw tp rate one cls two id steps path _ _ _ _ _ _ p _ c w (Lib.hid HC)
          (Lib.hid ((putAt w 1 [24, dom] _ 2 rfl (by simp only [List.mem_cons, List.not_mem_nil, or_false]; rintro y (rfl | rfl) <;> first | assumption | exact in64_lit _ (by omega) (by omega)) rfl (by omega) (by omega) (by omega)).to (by simp [bes_len]) rfl))
          (Lib.hid ((putAt w 2 [seq] _ 1 rfl (by simp only [List.mem_cons, List.not_mem_nil, or_false]; rintro y (rfl) <;> first | assumption | exact in64_lit _ (by omega) (by omega)) rfl (by omega) (by omega) (by omega)).to (by simp [bes_len]) rfl))
          (Lib.hid ((putAt w 6 [src] _ 1 rfl (by simp only [List.mem_cons, List.not_mem_nil, or_false]; rintro y (rfl) <;> first | assumption | exact in64_lit _ (by omega) (by omega)) rfl (by omega) (by omega) (by omega)).to (by simp [bes_len]) rfl))
          (Lib.hid ((putAt w 2 [port] _ 1 rfl (by simp only [List.mem_cons, List.not_mem_nil, or_false]; rintro y (rfl) <;> first | assumption | exact in64_lit _ (by omega) (by omega)) rfl (by omega) (by omega) (by omega)).to (by simp [bes_len]) rfl))
          (Lib.hid ((putAt w 8 [corr] _ 1 rfl (by simp only [List.mem_cons, List.not_mem_nil, or_false]; rintro y (rfl) <;> first | assumption | exact in64_lit _ (by omega) (by omega)) rfl (by omega) (by omega) (by omega)).to (by simp [bes_len]) rfl))
          (Lib.hid ((putAt w 8 [time, rate] _ 2 rfl (by simp only [List.mem_cons, List.not_mem_nil, or_false]; rintro y (rfl | rfl) <;> first | assumption | exact in64_lit _ (by omega) (by omega)) rfl (by omega) (by omega) (by omega)).to (by simp [bes_len]) rfl))).mono fun e w' h => ?_
        obtain ⟨v, h1, h2⟩ := h
        exact ⟨v, h1, ownN_eq h2 (by simp [Mg.text, Mg.head, Mg.tail])⟩
      · refine (enc_10 dom seq src port corr time tw tp rate one cls two id steps path _ _ _ _ _ _ _ _ p _ c w (Lib.hid HC)
          (Lib.hid ((putAt w 1 [26, dom] _ 2 rfl (by simp only [List.mem_cons, List.not_mem_nil, or_false]; rintro y (rfl | rfl) <;> first | assumption | exact in64_lit _ (by omega) (by omega)) rfl (by omega) (by omega) (by omega)).to (by simp [bes_len]) rfl))
          (Lib.hid ((putAt w 2 [seq] _ 1 rfl (by simp only [List.mem_cons, List.not_mem_nil, or_false]; rintro y (rfl) <;> first | assumption | exact in64_lit _ (by omega) (by omega)) rfl (by omega) (by omega) (by omega)).to (by simp [bes_len]) rfl))
          (Lib.hid ((putAt w 6 [src] _ 1 rfl (by simp only [List.mem_cons, List.not_mem_nil, or_false]; rintro y (rfl) <;> first | assumption | exact in64_lit _ (by omega) (by omega)) rfl (by omega) (by omega) (by omega)).to (by simp [bes_len]) rfl))
          (Lib.hid ((putAt w 2 [port] _ 1 rfl (by simp only [List.mem_cons, List.not_mem_nil, or_false]; rintro y (rfl) <;> first | assumption | exact in64_lit _ (by omega) (by omega)) rfl (by omega) (by omega) (by omega)).to (by simp [bes_len]) rfl))
          (Lib.hid ((putAt w 8 [corr] _ 1 rfl (by simp only [List.mem_cons, List.not_mem_nil, or_false]; rintro y (rfl) <;> first | assumption | exact in64_lit _ (by omega) (by omega)) rfl (by omega) (by omega) (by omega)).to (by simp [bes_len]) rfl))
          (Lib.hid ((putAt w 8 [time] _ 1 rfl (by simp only [List.mem_cons, List.not_mem_nil, or_false]; rintro y (rfl) <;> first | assumption | exact in64_lit _ (by omega) (by omega)) rfl (by omega) (by omega) (by omega)).to (by simp [bes_len]) rfl))
          (Lib.hid ((putAt w 6 [tw] _ 1 rfl (by simp only [List.mem_cons, List.not_mem_nil, or_false]; rintro y (rfl) <;> first | assumption | exact in64_lit _ (by omega) (by omega)) rfl (by omega) (by omega) (by omega)).to (by simp [bes_len]) rfl))
          (Lib.hid ((putAt w 2 [tp] _ 1 rfl (by simp only [List.mem_cons, List.not_mem_nil, or_false]; rintro y (rfl) <;> first | assumption | exact in64_lit _ (by omega) (by omega)) rfl (by omega) (by omega) (by omega)).to (by simp [bes_len]) rfl))).mono fun e w' h => ?_
        obtain ⟨v, h1, h2⟩ := h
        exact ⟨v, h1, ownN_eq h2 (by simp [Mg.text, Mg.head, Mg.tail])⟩
      · refine (enc_11 dom seq src port corr time tw tp rate one cls two id steps path _ _ _ _ _ _ _ _ _ p _ c w (Lib.hid HC)
          (Lib.hid ((putAt w 1 [27, dom] _ 2 rfl (by simp only [List.mem_cons, List.not_mem_nil, or_false]; rintro y (rfl | rfl) <;> first | assumption | exact in64_lit _ (by omega) (by omega)) rfl (by omega) (by omega) (by omega)).to (by simp [bes_len]) rfl))
          (Lib.hid ((putAt w 2 [seq] _ 1 rfl (by simp only [List.mem_cons, List.not_mem_nil, or_false]; rintro y (rfl) <;> first | assumption | exact in64_lit _ (by omega) (by omega)) rfl (by omega) (by omega) (by omega)).to (by simp [bes_len]) rfl))
          (Lib.hid ((putAt w 6 [src] _ 1 rfl (by simp only [List.mem_cons, List.not_mem_nil, or_false]; rintro y (rfl) <;> first | assumption | exact in64_lit _ (by omega) (by omega)) rfl (by omega) (by omega) (by omega)).to (by simp [bes_len]) rfl))
          (Lib.hid ((putAt w 2 [port] _ 1 rfl (by simp only [List.mem_cons, List.not_mem_nil, or_false]; rintro y (rfl) <;> first | assumption | exact in64_lit _ (by omega) (by omega)) rfl (by omega) (by omega) (by omega)).to (by simp [bes_len]) rfl))
          (Lib.hid ((putAt w 8 [corr] _ 1 rfl (by simp only [List.mem_cons, List.not_mem_nil, or_false]; rintro y (rfl) <;> first | assumption | exact in64_lit _ (by omega) (by omega)) rfl (by omega) (by omega) (by omega)).to (by simp [bes_len]) rfl))
          (Lib.hid ((putAt w 1 [one, cls, two] _ 3 rfl (by simp only [List.mem_cons, List.not_mem_nil, or_false]; rintro y (rfl | rfl | rfl) <;> first | assumption | exact in64_lit _ (by omega) (by omega)) rfl (by omega) (by omega) (by omega)).to (by simp [bes_len]) rfl))
          (Lib.hid ((putAt w 6 [id] _ 1 rfl (by simp only [List.mem_cons, List.not_mem_nil, or_false]; rintro y (rfl) <;> first | assumption | exact in64_lit _ (by omega) (by omega)) rfl (by omega) (by omega) (by omega)).to (by simp [bes_len]) rfl))
          (Lib.hid ((putAt w 1 [steps, (path.length : Int)] _ 2 rfl (by simp only [List.mem_cons, List.not_mem_nil, or_false]; rintro y (rfl | rfl) <;> first | assumption | exact in64_lit _ (by omega) (by omega)) rfl (by omega) (by omega) (by omega)).to (by simp [bes_len]) rfl))
          (Lib.hid (putPath hA (by simp only [List.length_append, bes_len, List.length_cons, List.length_nil]; omega) rfl))).mono fun e w' h => ?_
        obtain ⟨v, h1, h2⟩ := h
        exact ⟨v, h1, ownN_eq h2 (by simp [Mg.text, Mg.head, Mg.tail])⟩
    refine key.mono fun e w' h => .inl ⟨h0, ?_⟩
    obtain ⟨v, h1, h2⟩ := h
    exact ⟨v, h1, h2.b m.text_ne⟩
  · unfold MV at HC ⊢
    exact (enc_bad m.kind m.dom m.seq m.src m.port m.corr m.time m.tw m.tp m.rate m.one m.cls m.two m.id m.steps p _ c m.chk w (by rw [bne_iff_ne]; omega) (Lib.hid HC)).mono fun e w' h => .inr ⟨h0, h⟩

end Go.Proofs.Ytcdcklkbjfhhnaa
