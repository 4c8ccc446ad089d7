/- The reference's Pieces. -/
import Derived.Test.YtlpijhopllhccaaPoRef2
namespace Go.Proofs.Ytlpijhopllhccaa
open Go.RowKit Go.Joins

def pvs (c : Int) (ts : List (Int × Int)) (k : Nat) : List Value := (List.range k).flatMap fun i => [.int .i64 (pre ts i), .int .i64 (endOf c ts i), .int .i64 (tA ts i)]
theorem pvs_succ (c : Int) (ts : List (Int × Int)) (k : Nat) : pvs c ts (k + 1) = pvs c ts k ++ [.int .i64 (pre ts k), .int .i64 (endOf c ts k), .int .i64 (tA ts k)] := by
  unfold pvs; rw [List.range_succ, List.flatMap_append]; simp
theorem pvs_len (c : Int) (ts : List (Int × Int)) (k : Nat) : (pvs c ts k).length = k * 3 := by
  induction k with
  | zero => rfl
  | succ k ih => rw [pvs_succ, List.length_append, ih]; simp; omega
theorem pvs_at (c : Int) (ts : List (Int × Int)) (n k : Nat) (h : k < n) : (pvs c ts n)[k * 3]? = some (.int .i64 (pre ts k)) ∧ (pvs c ts n)[k * 3 + 1]? = some (.int .i64 (endOf c ts k)) ∧ (pvs c ts n)[k * 3 + 2]? = some (.int .i64 (tA ts k)) := by
  induction n with
  | zero => omega
  | succ n ih =>
    rw [pvs_succ]
    rcases Nat.lt_or_ge k n with hk | hk
    · have := ih hk
      rw [List.getElem?_append_left (by rw [pvs_len]; omega), List.getElem?_append_left (by rw [pvs_len]; omega), List.getElem?_append_left (by rw [pvs_len]; omega)]
      exact this
    · obtain rfl : k = n := by omega
      rw [List.getElem?_append_right (by rw [pvs_len]; omega), List.getElem?_append_right (by rw [pvs_len]; omega), List.getElem?_append_right (by rw [pvs_len]; omega), pvs_len]
      simp
/-- The pieces of a cycle, where they lie. -/
def PcArg (W : World) (v : Value) (c : Int) (ts : List (Int × Int)) : Prop :=
  ∃ g cap, v = .slice (some ⟨g, 0, none⟩) ts.length cap ∧ g < W.heap.size ∧ ts.length ≤ cap ∧ ∀ k, k < ts.length → W.cell? ⟨g, k * 3, none⟩ = some (.int .i64 (pre ts k)) ∧ W.cell? ⟨g, k * 3 + 1, none⟩ = some (.int .i64 (endOf c ts k)) ∧ W.cell? ⟨g, k * 3 + 2, none⟩ = some (.int .i64 (tA ts k))
theorem PcArg.below {W W' : World} {v : Value} {c : Int} {ts : List (Int × Int)} (h : PcArg W v c ts) (hb : Below W.heap.size W W') : PcArg W' v c ts := by
  obtain ⟨g, cap, e, hg, hc, h⟩ := h
  exact ⟨g, cap, e, Nat.lt_of_lt_of_le hg hb.size, hc, fun k hk => ⟨(hb.cell hg).trans (h k hk).1, (hb.cell hg).trans (h k hk).2.1, (hb.cell hg).trans (h k hk).2.2⟩⟩
theorem pc_arg {W : World} {B : Nat} {v : Value} {c : Int} {ts : List (Int × Int)} (h0 : 0 < ts.length) (h : W.ownsRow B 87 3 v ts.length (pvs c ts ts.length)) : PcArg W v c ts := by
  rcases h.2 with ⟨rfl, hz⟩ | ⟨g, cap, cur, rfl, hb, hg, hn, _, hs, hcur⟩
  · omega
  · refine ⟨g, cap, rfl, lt_of_heap hg, hn, fun k hk => ?_⟩
    have ht := pvs_at c ts ts.length k hk
    rw [h.cellAt (k * 3) (by omega), h.cellAt (k * 3 + 1) (by omega), h.cellAt (k * 3 + 2) (by omega)]
    exact ht
theorem hnew3 (W : World) (x y z : Value) (t : TypeId) (n : Nat) (hn : n = W.heap.size) : ∀ j u, ([x, y, z] : List Value)[j]? = some u → (W.alloc (.cells #[x, y, z] t)).cell? ((⟨n, 0, none⟩ : Addr).add j) = some u := fun j u hu => by
  subst hn
  match j with
  | 0 => simp at hu; subst hu; simp [Addr.add]
  | 1 => simp at hu; subst hu; simp [Addr.add]
  | 2 => simp at hu; subst hu; simp [Addr.add]
  | j + 3 => simp at hu
theorem hone3 (x y z : Int) : ∀ u ∈ ([.int .i64 x, .int .i64 y, .int .i64 z] : List Value), u.oneCell' = true := by
  intro u hu
  simp at hu
  rcases hu with rfl | rfl | rfl <;> rfl
def PcRel (w : World) (b c : Int) (sl : Value) (ts : List (Int × Int)) (ov av kv : Value) (wr : World) : Prop :=
  ∃ k : Nat, k ≤ ts.length ∧ kv = .int .i64 (k : Int) ∧ av = .int .i64 (if k < ts.length then pre ts k else c) ∧ wr.ownsRow (w.heap.size + 1) 87 3 ov k (pvs c ts k) ∧ RB wr w.heap.size b c sl ∧ Below w.heap.size w wr
theorem pc_step {w W W' : World} {b c p q a : Int} {sl va v' : Value} {ts : List (Int × Int)} {k : Nat} (h : W.ownsRow (w.heap.size + 1) 87 3 va k (pvs c ts k)) (hr : RB W w.heap.size b c sl) (hb : Below w.heap.size w W)
    (hp : p = pre ts k) (hq : q = endOf c ts k) (ha : a = tA ts k) (h1 : W'.ownsRow (w.heap.size + 1) 87 3 v' (k + 1) (pvs c ts k ++ [.int .i64 p, .int .i64 q, .int .i64 a])) (hg : W.grownBy W' va.ownBlock) :
    W'.ownsRow (w.heap.size + 1) 87 3 v' (k + 1) (pvs c ts (k + 1)) ∧ RB W' w.heap.size b c sl ∧ Below w.heap.size w W' := by
  obtain ⟨g1, g2, g3, g4, g5⟩ := hg
  have hsz := lt_of_heap hr
  have hne : ∀ k, k < w.heap.size + 1 → va.ownBlock ≠ some k := fun k hk e => by have := (row_lt h e).1; omega
  have hbel : Below w.heap.size W W' := ⟨g1, g2, g3, g4, fun k hk => g5 k (by omega) (fun e => hne k (by omega) e.symm)⟩
  refine ⟨by rw [pvs_succ, ← hp, ← hq, ← ha]; exact h1, (g5 _ (by omega) (fun e => hne _ (by omega) e.symm)).trans hr, hb.trans hbel⟩
theorem pc_below {w W W' : World} {b c : Int} {sl va : Value} {ts : List (Int × Int)} {k : Nat} (h : W.ownsRow (w.heap.size + 1) 87 3 va k (pvs c ts k) ∧ RB W w.heap.size b c sl ∧ Below w.heap.size w W) (hb : Below W.heap.size W W') :
    W'.ownsRow (w.heap.size + 1) 87 3 va k (pvs c ts k) ∧ RB W' w.heap.size b c sl ∧ Below w.heap.size w W' :=
  ⟨row_keep h.1 fun k hk => hb.block k (row_lt h.1 hk).2, h.2.1.below hb, bTr h.2.2 hb⟩
set_option maxHeartbeats 4000000 in
theorem pieces_some (b c : Int) (bk o cap : Nat) (ts : List (Int × Int)) (w : World) (hr : RdT w bk o ts) (hg : Good b c ts) :
    Calls Try.prog 45 #[LV b c (.slice (some ⟨bk, o, none⟩) ts.length cap)] w fun e w' => ∃ v, e = .returned v ∧ PcArg w' v c ts ∧ Below w.heap.size w w' := by
  obtain ⟨n, hn⟩ : ∃ n, n = ts.length := ⟨_, rfl⟩
  rw [← hn]
  have h0 := hg.pos
  have h64 := hg.len
  rw [← hn] at h0 h64
  have HGood := Lib.hid hg
  have Hn := Lib.hid hn
  have Hr := Lib.hid hr
  have HL0 := Lib.hid (RB.new w b c (.slice (some ⟨bk, o, none⟩) n cap))
  obtain ⟨l0, l1, l2⟩ := HL0.out.cells
  obtain ⟨i0, hi, hz0, hz1, hz2⟩ := info_parts Try.infoPc
  have HIi := Lib.hid hi
  have HZ0 := Lib.hid hz0
  have HZ1 := Lib.hid hz1
  have HZ2 := Lib.hid hz2
  clear hi hz0 hz1 hz2 hn hr hg
  go_enter Try.func45, Try.ntmps45
  go_wp2_with fail
  go_loopw [3, 4, 12] (fun ov av kv wr => PcRel w b c (.slice (some ⟨bk, o, none⟩) n cap) ts ov av kv wr) (fun _ _ kv _ => n - (intOf kv).toNat)
  case atStart =>
    refine ⟨0, by omega, rfl, by rw [if_pos (by rw [← Hn.out]; omega)]; rfl, ?_, HL0.out.below (bAl (bRef _) _), bAl (bAl (bRef w) _) _⟩
    have h := World.ownsRow_made (base := w.heap.size + 1) (e := 87) (size := 3) (w.alloc (.cells #[.int .i64 b, .int .i64 c, .slice (some ⟨bk, o, none⟩) n cap] 52)) #[] 0 (by simp) (by unfold maxLen; omega) rfl
    simpa [pvs] using h
  case round =>
    clear HL0 l0 l1 l2
    obtain ⟨k, hk, rfl, rfl, hrow, hlb, hb⟩ := hrel
    rw [← Hn.out] at hk
    have HPC := Lib.hid (And.intro hrow (And.intro hlb hb))
    have hsz := lt_of_heap hlb
    have HSZ := Lib.hid hsz
    rcases Nat.lt_or_ge k n with g | g
    · have hd : decide ((k : Int) < (n : Int)) = true := decide_eq_true (by omega)
      have hkl : k < ts.length := by rw [← Hn.out]; exact g
      rw [if_pos hkl]
      obtain ⟨c1, c2⟩ := (Hr.out.below hb).2 k hkl
      have hin := HGood.out.ln k hkl
      have hps := pre_succ ts k
      have hp0 := HGood.out.pre0 k (by omega)
      have hpc := HGood.out.preC (k := k + 1) (by omega)
      have hcc := HGood.out.c1
      have heo : endOf c ts k = if k + 1 < ts.length then pre ts (k + 1) else c := rfl
      rw [← Hn.out, hps] at heo
      obtain ⟨a, ha⟩ : ∃ a, a = tA ts k := ⟨_, rfl⟩
      obtain ⟨r, hr⟩ : ∃ r, r = tR ts k := ⟨_, rfl⟩
      obtain ⟨p, hp⟩ : ∃ p, p = pre ts k := ⟨_, rfl⟩
      rw [← ha] at c1
      rw [← hr] at c2 hin hps heo
      rw [← hp] at hps hp0 heo ⊢
      have two := two_cells wr (.int .i64 a) (.int .i64 r) 88
      have hPC1 := pc_below HPC.out (bAl (bRef wr) (.cells #[.int .i64 a, .int .i64 r] 88))
      obtain ⟨l0, l1, l2⟩ := hPC1.2.1.cells
      have e4 : wrap64 (p + r) = p + r := by unfold wrap64; omega
      have HP := Lib.hid hp
      have HA := Lib.hid ha
      have HPS := Lib.hid hps
      rcases Nat.lt_or_ge (k + 1) n with g2 | g2
      · have d1 : ((k : Int) == (n : Int) - 1) = false := by rw [beq_eq_false_iff_ne]; omega
        rw [if_pos g2] at heo
        have HE : Hid (p + r = endOf c ts k) := Lib.hid heo.symm
        have HG2 := Lib.hid g2
        clear hrow hlb hb hkl hin hps hp0 hpc hcc heo ha hr hp hPC1 g2 hsz
        go_wp2_with (at_builtin; refine wpList_append_own_at _ rfl _ _ 84 rfl (w.heap.size + 1) 87 i0 _ 3 24 Try.underlying84 HIi.out HZ0.out HZ1.out HZ2.out rfl (by decide) _ k (pvs c ts k) rfl (pc_below (pc_below HPC.out (bAl (bRef wr) _)) (bAl (bRef _) _)).1 ⟨wr.heap.size + 1, 0, none⟩ 1 1 [.int .i64 p, .int .i64 (p + r), .int .i64 a] rfl rfl (hnew3 _ _ _ _ _ _ (by simp)) (hone3 p (p + r) a) (by unfold maxLen; omega) (by omega) (by have := HSZ.out; simp; omega) ?_; intro v1 w1 h1 h2 _ h4; have hh := Lib.hid ((fun hx => pc_step hx.1 hx.2.1 hx.2.2 HP.out HE.out HA.out h1 h2) (pc_below (pc_below HPC.out (bAl (bRef wr) _)) (bAl (bRef _) _))); clear h1 h2 h4)
        go_roundw
        case rel => exact ⟨k + 1, by rw [← Hn.out]; omega, by go_num, by rw [if_pos (by rw [← Hn.out]; exact HG2.out), HPS.out], hh.out.1, hh.out.2.1, hh.out.2.2⟩
        case measure => simp [intOf]; omega
      · have d1 : ((k : Int) == (n : Int) - 1) = true := by rw [beq_iff_eq]; omega
        rw [if_neg (by omega)] at heo
        have HE : Hid (c = endOf c ts k) := Lib.hid heo.symm
        have HG2 := Lib.hid g2
        clear hrow hlb hb hkl hin hps hp0 hpc hcc heo ha hr hp hPC1 g2 hsz
        go_wp2_with (at_builtin; refine wpList_append_own_at _ rfl _ _ 84 rfl (w.heap.size + 1) 87 i0 _ 3 24 Try.underlying84 HIi.out HZ0.out HZ1.out HZ2.out rfl (by decide) _ k (pvs c ts k) rfl (pc_below (pc_below HPC.out (bAl (bRef wr) _)) (bAl (bRef _) _)).1 ⟨wr.heap.size + 1, 0, none⟩ 1 1 [.int .i64 p, .int .i64 c, .int .i64 a] rfl rfl (hnew3 _ _ _ _ _ _ (by simp)) (hone3 p c a) (by unfold maxLen; omega) (by omega) (by have := HSZ.out; simp; omega) ?_; intro v1 w1 h1 h2 _ h4; have hh := Lib.hid ((fun hx => pc_step hx.1 hx.2.1 hx.2.2 HP.out HE.out HA.out h1 h2) (pc_below (pc_below HPC.out (bAl (bRef wr) _)) (bAl (bRef _) _))); clear h1 h2 h4)
        go_roundw
        case rel => exact ⟨k + 1, by rw [← Hn.out]; omega, by go_num, by rw [if_neg (by have := HG2.out; rw [← Hn.out]; omega)], hh.out.1, hh.out.2.1, hh.out.2.2⟩
        case measure => simp [intOf]; omega
    · obtain rfl : k = n := by omega
      have hd : decide ((k : Int) < (k : Int)) = false := decide_eq_false (by omega)
      rw [if_neg (show ¬ k < ts.length by rw [← Hn.out]; omega)]
      rw [Hn.out] at hrow
      have HF := Lib.hid (pc_arg (by rw [← Hn.out]; exact h0) hrow)
      have HB := Lib.hid hb
      clear hrow hlb hb hsz
      go_wp2_with fail
      go_ret
      exact ⟨_, rfl, HF.out, HB.out⟩

end Go.Proofs.Ytlpijhopllhccaa
