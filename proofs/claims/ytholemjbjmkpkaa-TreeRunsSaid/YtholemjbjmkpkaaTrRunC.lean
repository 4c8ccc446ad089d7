/- TreeRuns: the state of its great loop; what layer 19's reference answers. -/
import Derived.Test.YtholemjbjmkpkaaTrRunB
import Derived.Test.YtholemjbjmkpkaaBtRCh
namespace Go.Proofs.Ytholemjbjmkpkaa
open Go.RowKit Go.Joins Go.Deep

theorem Try.infoE : (Try.prog.info? 68).map (fun i => (i.zero, i.size, i.bytes)) = some (some (.agg (KeC (Ke.fresh false 0) (.slice none 0 0))), 12, 104) := by kernel_rfl
theorem make_kept (n : Nat) (hn : n ≤ 8) (w : World) : ∃ cs, (Instr.makeSlice 64 (.int .i64 (n : Int)) (.int .i64 (n : Int))).run Try.prog w = .ok (.slice (some ⟨w.heap.size, 0, none⟩) n n) (w.alloc (.cells cs 68)) ∧ cs.size = n * 12 ∧ ∀ k, k < n → ∀ j x, (KeC (Ke.fresh false 0) (.slice none 0 0)).toList[j]? = some x → cs[k * 12 + j]? = some x := by
  obtain ⟨i0, hi, hz0, hz1, hz2⟩ := Go.info_parts Try.infoE
  have hr := run_make (P := Try.prog) w 64 68 i0 _ Try.underlying64 hi hz0 .i64 .i64 n n (by omega) (by omega) (by rw [hz2]; omega) (by omega)
  simp only [Int.toNat_natCast] at hr
  rw [hz1] at hr
  exact ⟨_, hr, by simp [madeCells], fun k hk j x hj => made_at _ n rfl k j hk x hj⟩
theorem Ks.made {w : World} {n : Nat} {cs : Array Value} (hs : cs.size = n * 12) (hc : ∀ k, k < n → ∀ j x, (KeC (Ke.fresh false 0) (.slice none 0 0)).toList[j]? = some x → cs[k * 12 + j]? = some x) : Ks (w.alloc (.cells cs 68)) w.heap.size n (fun _ => Ke.fresh false 0) :=
  ⟨fun _ => .slice none 0 0, ⟨cs, heap_alloc_new w _, hs, hc⟩, fun _ _ => PA.nil _⟩
/-- The law's boxes, its list and the tree at the head of a round. -/
structure RnS (w : World) (p : Pri) (b g q mb : Nat) (F : Nat → Ke) (t : Ts) (W : World) : Prop where
  bel : Below w.heap.size w W
  own : W.heap[w.heap.size]? = some (.cells #[.int .i64 p.one, .int .i64 p.cls, .int .i64 p.two, .int .i64 p.id] 23 (0, 0))
  mine : W.heap[mb]? = some (.cells #[.int .i64 p.one, .int .i64 p.cls, .int .i64 p.two, .int .i64 p.id, .int .i64 0, .int .i64 0, .int .i64 0, .int .i64 0] 30 (0, 0))
  tr : Tr W b g t
  ks : Ks W q t.n F
  tw : ∀ k, k < t.n → Twin (F k) (t.ports k)
  ok : t.Ok
  fit : t.Fit
  me : t.own = p
  wh : ∀ k, k < t.n → -1125899906842624 ≤ (F k).when_ ∧ (F k).when_ ≤ 1125899906842624
  lg : w.heap.size ≤ g
  lq : w.heap.size ≤ q
section
variable {w W W' : World} {p : Pri} {b g q mb : Nat} {F : Nat → Ke} {t t' : Ts}
theorem RnS.below (h : RnS w p b g q mb F t W) (hb : Below W.heap.size W W') : RnS w p b g q mb F t W' :=
  { h with bel := bTr h.bel hb, own := (hb.block _ (lt_of_heap h.own)).trans h.own, mine := (hb.block _ (lt_of_heap h.mine)).trans h.mine, tr := h.tr.below hb, ks := h.ks.below hb }
/-- The list has grown. -/
theorem RnS.ty (h : RnS w p b g q mb F t W) (hb : ButTy 39 w.heap.size W W') : RnS w p b g q mb F t W' := by
  obtain ⟨us, hks⟩ := h.ks
  obtain ⟨ut, htr⟩ := h.tr
  obtain ⟨ct, hct, _⟩ := htr.row
  refine { h with bel := h.bel.trans hb.bel, own := (hb.block _ _ _ _ h.own (by decide)).trans h.own, mine := (hb.block _ _ _ _ h.mine (by decide)).trans h.mine, tr := ⟨ut, ?_⟩, ks := ⟨us, hks.ty hb (by decide) (by decide)⟩ }
  obtain ⟨cs, h1, h2, h3⟩ := htr.row
  exact ⟨(hb.block _ _ _ _ htr.box (by decide)).trans htr.box, ⟨cs, (hb.block _ _ _ _ h1 (by decide)).trans h1, h2, h3⟩, fun k hk => (htr.path k hk).keep fun i c fr hi => hb.block i _ _ _ hi (by decide)⟩
/-- The tree turns. -/
theorem RnS.set (h : RnS w p b g q mb F t W) (hl : LeaveT b g W t' W') : Below w.heap.size w W' ∧ W'.heap[w.heap.size]? = W.heap[w.heap.size]? ∧ W'.heap[mb]? = W.heap[mb]? ∧ Ks W' q t.n F := by
  obtain ⟨c, hc⟩ := h.tr.tag
  exact ⟨hl.2.from_ h.bel h.lg, hl.2.block _ (lt_of_heap h.own) (neq_tag h.own hc (by decide)), hl.2.block _ (lt_of_heap h.mine) (neq_tag h.mine hc (by decide)), h.ks.other hl.2 hc⟩
theorem RnS.near (h : RnS w p b g q mb F t W) : ∀ k, k < t.n → Near (F k).row.steps := fun k hk => by
  have := h.fit.steps k hk
  rw [(h.tw k hk).row]
  exact ⟨by omega, by omega⟩
end
/-- What layer 19's reference answers of the list: the tree's own choice and roles. -/
theorem rn_choose {w W : World} {p : Pri} {b g q mb : Nat} {F : Nat → Ke} {t : Ts} {B : Nat} {v : Value} {now : Int} (h : RnS w p b g q mb F t W) (ho : OwnR HC 39 10 B W v (hsL F now t.most t.n)) :
    Calls Try.prog 19 #[.agg #[.int .i64 p.one, .int .i64 p.cls, .int .i64 p.two, .int .i64 p.id, .int .i64 0, .int .i64 0, .int .i64 0, .int .i64 0], v] W (RChosen W (t.best now) (t.roles now)) := by
  have hl := hsL_len F now t.most t.n
  have hn := h.ok.n8
  have hA := harg_own ho ⟨false, false, ⟨⟨0, 0, 0, 0⟩, 0, 0, 0, 0⟩⟩
  rw [hl] at hA
  have hat : ∀ k, k < t.n → (hsL F now t.most t.n).getD k ⟨false, false, ⟨⟨0, 0, 0, 0⟩, 0, 0, 0, 0⟩⟩ = (F k).hd now t.most := fun k hk => by
    unfold hsL
    rw [List.getD_eq_getElem?_getD, List.getElem?_map, List.getElem?_range hk]
    rfl
  have key := rchoose_any p hA (by omega) (fun k hk => by rw [hat k hk]; exact h.near k hk)
  have e1 : chs p (fun k => (hsL F now t.most t.n).getD k ⟨false, false, ⟨⟨0, 0, 0, 0⟩, 0, 0, 0, 0⟩⟩) t.n = t.best now := by
    rw [chs_same p t.n hat, ← h.me]
    exact twin_best h.tw now
  rw [e1] at key
  have e2 : rolesL p.id (t.best now) (fun k => (hsL F now t.most t.n).getD k ⟨false, false, ⟨⟨0, 0, 0, 0⟩, 0, 0, 0, 0⟩⟩) t.n = t.roles now := by
    rw [← twin_roles h.tw now, h.me]
    refine List.ext_getElem? fun i => ?_
    unfold rolesL
    rcases Nat.lt_or_ge i t.n with hi | hi
    · simp only [List.getElem?_map, List.getElem?_range hi, Option.map_some]
      rw [hat i hi]
    · rw [List.getElem?_eq_none (by simpa using hi), List.getElem?_eq_none (by simpa using hi)]
  rw [e2] at key
  exact key

end Go.Proofs.Ytholemjbjmkpkaa
