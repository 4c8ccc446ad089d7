/- LanesRuns in parts: Put that is refused for its size or class. Written by gen_lnrun.py. -/
import Derived.Test.YtpgcadceljalpaaLnPart0
namespace Go.Proofs.Ytpgcadceljalpaa
open Go.RowKit Go.Joins Go.Deep

/-- What holds when a round begins, and when it ends: after i rounds. -/
structure St (w : World) (b lb : Nat) (r : Nat → Int) (i : Nat) (s : LS) (L : List On) (F : Nat → Prop) (v : Value) (W : World) : Prop where
  al : All L s
  gd : s.Good
  er : s.r = r
  ls : ∀ c, c < 8 → 0 ≤ s.lost c ∧ s.lost c ≤ i
  ln : L.length ≤ i
  cap : ∀ c, c < 8 → ((s.q c).length : Int) ≤ r c
  st : RunS w b lb r s.lost L s F v W
section
variable {w W W' : World} {b lb i m n c sb : Nat} {r l : Nat → Int} {L : List On} {s s' : LS} {F : Nat → Prop} {v : Value} {cls kk id size : Int} {drop : Bool} {x : It}
theorem St.below (h : St w b lb r i s L F v W) (hb : Below W.heap.size W W') : St w b lb r i s L F v W' := ⟨h.al, h.gd, h.er, h.ls, h.ln, h.cap, h.st.below hb⟩
theorem St.up (h : St w b lb r i s L F v W) : St w b lb r (i + 1) s L F v W := ⟨h.al, h.gd, h.er, fun c hc => ⟨(h.ls c hc).1, by have := (h.ls c hc).2; omega⟩, by have := h.ln; omega, h.cap, h.st⟩
theorem St.cl (h : St w b lb r i s L F v W) : ∀ y ∈ L, 0 ≤ y.1 ∧ y.1 < 8 ∧ 0 ≤ y.2.2.1 ∧ y.2.2.1 ≤ 1600 := fun y hy => by
  obtain ⟨h1, h2⟩ := h.al.cl y hy
  have e : ((y.1.toNat : Nat) : Int) = y.1 := by omega
  have hq : y.2 ∈ s.q y.1.toNat := by
    rw [h.al.q _ (by omega), e]
    refine List.mem_map.2 ⟨y, ?_, rfl⟩
    unfold ofC
    rw [List.mem_filter]
    exact ⟨hy, by simp⟩
  have := h.gd.sz _ (by omega) _ hq
  exact ⟨h1, h2, this.1, this.2⟩
theorem St.len (h : St w b lb r i s L F v W) (hm : L.length = m) (hc : c < 8) (hn : cntN L (c : Int) m = n) : (s.q c).length = n := by
  rw [h.al.len hc, ← cntN_all, hm]
  exact hn
theorem StepB.but (h : StepB W sb kk cls id size drop l) (hb : ButP F W W') (hn : ¬ F sb) : StepB W' sb kk cls id size drop l := (hb.block _ (lt_of_heap h) hn).trans h
def StepC (W : World) (sb : Nat) (cls id size : Int) (drop : Bool) : Prop := W.cell? ⟨sb, 1, none⟩ = some (.int .i64 cls) ∧ W.cell? ⟨sb, 2, none⟩ = some (.int .i64 id) ∧ W.cell? ⟨sb, 3, none⟩ = some (.int .i64 size) ∧ W.cell? ⟨sb, 4, none⟩ = some (.bool drop)
theorem StepB.cells (h : StepB W sb kk cls id size drop l) : StepC W sb cls id size drop := ⟨cell_of_row _ _ _ _ _ _ h, cell_of_row _ _ _ _ _ _ h, cell_of_row _ _ _ _ _ _ h, cell_of_row _ _ _ _ _ _ h⟩
/-- Behind a call of the lanes. -/
theorem mid_of (h : St w b lb r i s L F v W) (hO : StepB W sb kk cls id size drop l) (hsb : ¬ F sb) (hl : Left w W b F s' W') : ∃ F', RunS w b lb r s.lost L s' F' v W' ∧ StepB W' sb kk cls id size drop l := by
  obtain ⟨F', h1⟩ := h.st.turn hl
  obtain ⟨_, _, _, h2⟩ := hl
  exact ⟨F', h1, hO.but h2 hsb⟩
theorem RunS.rc {l2 : Nat → Int} (h : RunS w b lb r l2 L s F v W) (hc : c < 8) : W.cell? ⟨w.heap.size, c, none⟩ = some (.int .i64 (r c)) ∧ W.cell? ⟨lb, c, none⟩ = some (.int .i64 (l2 c)) ∧ W.frozen? ⟨lb, c, none⟩ = false :=
  ⟨o8_cells r h.rm hc, o8_cells l2 h.ls hc, frozen_of_row _ _ _ _ _ h.ls⟩
theorem putA (h : St w b lb r i s L F v W) (hx : x.2.1 < 0 ∨ 1600 < x.2.1) : Calls Try.prog 11 #[.pointer (some ⟨b, 0, none⟩), .int .i64 cls, itv x] W fun e w' => e = .returned (.int .i64 1) ∧ Left w W b F s w' := by
  have e1 : s.pute cls x = 1 := if_pos hx
  have e2 : s.put cls x = s := by unfold LS.put; rw [e1, if_neg (by decide), if_neg (by decide)]
  have k := putB h.st.ln h.gd cls x
  rw [e1, e2] at k
  exact k
theorem putP (h : St w b lb r i s L F v W) (hx : ¬ (x.2.1 < 0 ∨ 1600 < x.2.1)) (hc : cls < 0 ∨ 8 ≤ cls) : Calls Try.prog 11 #[.pointer (some ⟨b, 0, none⟩), .int .i64 cls, itv x] W fun e w' => e = .returned (.int .i64 40) ∧ Left w W b F s w' := by
  have e1 : s.pute cls x = 40 := by unfold LS.pute; rw [if_neg hx, if_pos hc]
  have e2 : s.put cls x = s := by unfold LS.put; rw [e1, if_neg (by decide), if_neg (by decide)]
  have k := putB h.st.ln h.gd cls x
  rw [e1, e2] at k
  exact k
theorem putF (h : St w b lb r i s L F v W) (hx : ¬ (x.2.1 < 0 ∨ 1600 < x.2.1)) (hc : c < 8) (hf : s.full c x.2.2 = true) : Calls Try.prog 11 #[.pointer (some ⟨b, 0, none⟩), .int .i64 (c : Int), itv x] W fun e w' => e = .returned (.int .i64 30) ∧ Left w W b F { s with lost := upd s.lost c (wrap64 (s.lost c + 1)) } w' := by
  have ek : (c : Int).toNat = c := by omega
  have e1 : s.pute (c : Int) x = 30 := by unfold LS.pute; rw [if_neg hx, if_neg (by omega), ek, if_pos hf]
  have e2 : s.put (c : Int) x = { s with lost := upd s.lost c (wrap64 (s.lost c + 1)) } := by unfold LS.put; rw [e1, if_neg (by decide), if_pos rfl, ek]
  have k := putB h.st.ln h.gd (c : Int) x
  rw [e1, e2] at k
  exact k
theorem putO (h : St w b lb r i s L F v W) (hx : ¬ (x.2.1 < 0 ∨ 1600 < x.2.1)) (hc : c < 8) (hf : ¬ s.full c x.2.2 = true) : Calls Try.prog 11 #[.pointer (some ⟨b, 0, none⟩), .int .i64 (c : Int), itv x] W fun e w' => e = .returned (.int .i64 0) ∧ Left w W b F { s with q := upd s.q c (s.q c ++ [x]) } w' := by
  have ek : (c : Int).toNat = c := by omega
  have e1 : s.pute (c : Int) x = 0 := by unfold LS.pute; rw [if_neg hx, if_neg (by omega), ek, if_neg hf]
  have e2 : s.put (c : Int) x = { s with q := upd s.q c (s.q c ++ [x]) } := by unfold LS.put; rw [e1, if_pos rfl, ek]
  have k := putB h.st.ln h.gd (c : Int) x
  rw [e1, e2] at k
  exact k
theorem St.stay (h : St w b lb r i s L F v W) {F' : Nat → Prop} (h1 : RunS w b lb r s.lost L s F' v W') : St w b lb r (i + 1) s L F' v W' := St.up ⟨h.al, h.gd, h.er, h.ls, h.ln, h.cap, h1⟩
theorem St.full (h : St w b lb r i s L F v W) (hi : i < 100) (hc : c < 8) {F' : Nat → Prop} (h1 : RunS w b lb r s.lost L { s with lost := upd s.lost c (wrap64 (s.lost c + 1)) } F' v W') : St w b lb r (i + 1) { s with lost := upd s.lost c (wrap64 (s.lost c + 1)) } L F' v (W'.setCell ⟨lb, c, none⟩ (.int .i64 (wrap64 (s.lost c + 1)))) := by
  have hs := h.ls c hc
  have e : wrap64 (s.lost c + 1) = s.lost c + 1 := by unfold wrap64; omega
  refine ⟨h.al.same _, ⟨h.gd.sz, h.gd.ln⟩, h.er, fun d hd => ?_, by have := h.ln; omega, h.cap, h1.lost c hc _⟩
  have hd2 := h.ls d hd
  show 0 ≤ upd s.lost c _ d ∧ upd s.lost c _ d ≤ _
  by_cases g : d = c
  · subst g
    rw [upd_same, e]
    omega
  · rw [upd_other _ _ g]
    omega
def One (x : On) : Obj := .cells #[.int .i64 x.1, .int .i64 x.2.1, .int .i64 x.2.2.1, .bool x.2.2.2] 41 (0, 0)
theorem RunS.push {l2 : Nat → Int} (h : RunS w b lb r l2 L s F v W) (x : On) (hl : L.length < 1000) : ∃ p5 c5 w5, (∀ ty, (Builtin.append_ #[37, 37] ty #[v, .slice (some ⟨W.heap.size, 0, none⟩) 1 1]).run Try.prog (W.alloc (One x)) = .ok (.slice p5 (L.length + 1) c5) w5) ∧ RunS w b lb r l2 (L ++ [x]) s F (.slice p5 (L.length + 1) c5) w5 := by
  have h' := h.alloc (One x)
  have hg : (W.alloc (One x)).heap[W.heap.size]? = some (One x) := heap_alloc_one' W _
  have hsz : w.heap.size ≤ (W.alloc (One x)).heap.size := h'.ln.bel.size
  obtain ⟨v', w5, k1, k2, k3, k4⟩ := h'.row.app hsz [x] ⟨W.heap.size, 0, none⟩ 1 (fun j u hu => by
    have hj := (List.getElem?_eq_some_iff.1 hu).1
    rw [iv4_len] at hj
    have e : (⟨W.heap.size, 0, none⟩ : Addr).add j = ⟨W.heap.size, j, none⟩ := by unfold Addr.add; split <;> simp_all
    rw [e, cell_of_row _ _ _ _ _ _ hg]
    have hj4 : j = 0 ∨ j = 1 ∨ j = 2 ∨ j = 3 := by simp at hj; omega
    rcases hj4 with rfl | rfl | rfl | rfl <;> exact hu) (by omega) (by simp) (.inl (by simp))
  obtain ⟨p5, c5, e5⟩ := k2.form
  have el : (L ++ [x]).length = L.length + 1 := by simp
  rw [el] at e5
  subst e5
  exact ⟨p5, c5, w5, k1, h'.setRow k2 k3 k4⟩
theorem St.push (h : St w b lb r i s L F v W) (hx : ¬ (x.2.1 < 0 ∨ 1600 < x.2.1)) (hc : c < 8) (hf : ¬ s.full c x.2.2 = true) (hr : okR r 8) {F' : Nat → Prop} {v' : Value} (h1 : RunS w b lb r s.lost (L ++ [((c : Int), x)]) { s with q := upd s.q c (s.q c ++ [x]) } F' v' W') : St w b lb r (i + 1) { s with q := upd s.q c (s.q c ++ [x]) } (L ++ [((c : Int), x)]) F' v' W' := by
  have ek : (c : Int).toNat = c := by omega
  have e1 : s.pute (c : Int) x = 0 := by unfold LS.pute; rw [if_neg hx, if_neg (by omega), ek, if_neg hf]
  have e2 : s.put (c : Int) x = { s with q := upd s.q c (s.q c ++ [x]) } := by unfold LS.put; rw [e1, if_pos rfl, ek]
  have hg := h.gd.put (by rw [h.er]; exact hr) (c : Int) x
  rw [e2] at hg
  exact ⟨h.al.put hc x, hg, h.er, fun d hd => ⟨(h.ls d hd).1, by have := (h.ls d hd).2; show s.lost d ≤ _; omega⟩, by have := h.ln; simp; omega, (fun d hd => by
    show ((upd s.q c (s.q c ++ [x]) d).length : Int) ≤ r d
    by_cases e : d = c
    · subst e
      rw [upd_same]
      unfold LS.full at hf
      rw [h.er] at hf
      have h2 : ¬ (r d ≤ if x.2.2 = true then 2 * ((s.q d).length : Int) else ((s.q d).length : Int)) := by simpa using hf
      simp only [List.length_append, List.length_singleton]
      split at h2 <;> omega
    · rw [upd_other _ _ e]
      exact h.cap d hd), h1⟩
end
set_option maxRecDepth 1000000 in
set_option maxHeartbeats 16000000 in
theorem rn_put_a {w W : World} {b lb i m n c sb c4 : Nat} {kk cls id size : Int} {drop : Bool} {r l : Nat → Int} {L : List On} {s : LS} {F : Nat → Prop} {p4 : Option Addr} {a0 a1 a3 a4 a6 a7 a8 a9 a10 a11 a14 a17 a18 a19 a20 a21 a22 a23 a24 a25 a26 a27 a28 a29 a30 a31 a32 a33 a34 a35 a36 a37 a38 a39 a40 a41 a42 a43 a44 a45 a46 a47 a48 a49 a50 a51 a52 a53 a54 a55 a56 a57 a58 a59 a60 a61 a62 a63 a64 a65 a66 a67 a68 a69 a70 a71 a72 a73 a74 a75 a76 a77 a78 a79 a80 a81 a82 a83 a84 a85 a86 a87 a88 a89 a90 a91 a92 a93 a94 a95 a96 a97 a98 a99 a100 a101 a102 a103 a104 a105 a106 a107 a108 a109 a110 a111 a112 a113 a114 a115 a116 a117 a118 a119 a120 a121 a122 a123 a124 a125 a126 a127 a128 a129 a130 a131 a132 a133 a134 a135 a136 a137 a138 a139 a140 a141 a142 a143 a144 a145 a146 a147 a148 a149 a150 a151 a152 a153 a154 a155 a156 a157 a158 a159 a160 a161 a162 a163 a164 a165 a166 a167 a168 a169 a170 a171 a172 a173 a174 a175 a176 a177 a178 a179 a180 a181 a182 a183 a184 a185 a186 a187 a188 a189 a190 a191 a192 a193 a194 a195 a196 a197 a198 a199 a200 a201 a202 a203 a204 a205 a206 a207 a208 a209 a210 a211 a212 a213 a214 a215 a216 a217 a218 a219 a220 a221 a222 a223 a224 a225 a226 a227 a228 a229 a230 a231 a232 a233 a234 a235 a236 a237 a238 a239 a240 a241 a242 a243 a244 a245 a246 a247 a248 a249 a250 a251 a252 a253 a254 a255 a256 a257 a258 a259 a260 a261 a262 a263 a264 a265 a266 a267 a268 a269 a270 a271 a272 a273 a274 a275 a276 a277 a278 a279 a280 a281 a282 a283 a284 a285 a286 a287 a288 a289 a290 a291 a292 a293 a294 a295 a296 a297 a298 a299 a300 a301 a302 a303 a304 a305 a306 a307 a308 a309 a310 a311 a312 a313 a314 a315 a316 a317 a318 a319 a320 a321 a322 a323 a324 a325 a326 a327 a328 a329 a330 a331 a332 a333 a334 a335 a336 a337 a338 a339 a340 a341 a342 a343 a344 a345 a346 a347 a348 a349 a350 a351 a352 a353 a354 a355 a356 a357 a358 a359 a360 a361 a362 a363 a364 a365 a366 a367 a368 a369 a370 : Value} {Q0 : Exit → Act → World → Prop}
    (hR : St w b lb r i s L F (.slice p4 m c4) W) (hm : L.length = m) (hi : i < 100) (hO : StepB W sb kk cls id size drop l) (hsb : ¬ F sb) (hcn : cntN L cls m = n) (h0 : size < 0)
    (hQ : ∀ (z4 z20 z128 z129 z130 z131 z132 z133 z134 z135 z136 z137 z138 z139 z140 z141 z142 z143 z144 z145 z146 z147 z148 z149 z150 z151 z152 z153 z154 z155 z156 z157 z158 z159 z160 z161 z162 z163 z164 z165 z166 z167 z168 z169 z170 z171 z172 z173 z174 z175 z176 z177 z178 z179 z180 z181 z182 z183 z184 z185 z186 z187 z188 z189 z190 z191 z192 z193 z194 z195 z196 : Value) (s' : LS) (L' : List On) (F' : Nat → Prop) (p' : Option Addr) (m' c' : Nat) (W' : World), St w b lb r (i + 1) s' L' F' (.slice p' m' c') W' → L'.length = m' → Q0 .normal ⟨#[a0, a1, .pointer (some ⟨w.heap.size, 0, none⟩), a3, z4, .pointer (some ⟨b, 0, none⟩), a6, a7, a8, a9, a10, a11, (.slice p' m' c'), .pointer (some ⟨lb, 0, none⟩), a14, .pointer (some ⟨sb, 0, none⟩), .int .i64 (n : Int), a17, a18, a19, z20, a21, a22, a23, a24, a25, a26, a27, a28, a29, a30, a31, a32, a33, a34, a35, a36, a37, a38, a39, a40, a41, a42, a43, a44, a45, a46, a47, a48, a49, a50, a51, a52, a53, a54, a55, a56, a57, a58, a59, a60, a61, a62, a63, a64, a65, a66, a67, a68, a69, a70, a71, a72, a73, a74, a75, a76, a77, a78, a79, a80, a81, a82, a83, a84, a85, a86, a87, a88, a89, a90, a91, a92, a93, a94, a95, a96, a97, a98, a99, a100, a101, a102, a103, a104, a105, a106, a107, a108, a109, a110, a111, a112, a113, a114, a115, a116, a117, a118, a119, a120, a121, a122, a123, a124, a125, a126, a127, z128, z129, z130, z131, z132, z133, z134, z135, z136, z137, z138, z139, z140, z141, z142, z143, z144, z145, z146, z147, z148, z149, z150, z151, z152, z153, z154, z155, z156, z157, z158, z159, z160, z161, z162, z163, z164, z165, z166, z167, z168, z169, z170, z171, z172, z173, z174, z175, z176, z177, z178, z179, z180, z181, z182, z183, z184, z185, z186, z187, z188, z189, z190, z191, z192, z193, z194, z195, z196, a197, a198, a199, a200, a201, a202, a203, a204, a205, a206, a207, a208, a209, a210, a211, a212, a213, a214, a215, a216, a217, a218, a219, a220, a221, a222, a223, a224, a225, a226, a227, a228, a229, a230, a231, a232, a233, a234, a235, a236, a237, a238, a239, a240, a241, a242, a243, a244, a245, a246, a247, a248, a249, a250, a251, a252, a253, a254, a255, a256, a257, a258, a259, a260, a261, a262, a263, a264, a265, a266, a267, a268, a269, a270, a271, a272, a273, a274, a275, a276, a277, a278, a279, a280, a281, a282, a283, a284, a285, a286, a287, a288, a289, a290, a291, a292, a293, a294, a295, a296, a297, a298, a299, a300, a301, a302, a303, a304, a305, a306, a307, a308, a309, a310, a311, a312, a313, a314, a315, a316, a317, a318, a319, a320, a321, a322, a323, a324, a325, a326, a327, a328, a329, a330, a331, a332, a333, a334, a335, a336, a337, a338, a339, a340, a341, a342, a343, a344, a345, a346, a347, a348, a349, a350, a351, a352, a353, a354, a355, a356, a357, a358, a359, a360, a361, a362, a363, a364, a365, a366, a367, a368, a369, a370], []⟩ W') :
    Code.wp Try.prog (partOf 31 0) Q0 ⟨#[a0, a1, .pointer (some ⟨w.heap.size, 0, none⟩), a3, a4, .pointer (some ⟨b, 0, none⟩), a6, a7, a8, a9, a10, a11, .slice p4 m c4, .pointer (some ⟨lb, 0, none⟩), a14, .pointer (some ⟨sb, 0, none⟩), .int .i64 (n : Int), a17, a18, a19, a20, a21, a22, a23, a24, a25, a26, a27, a28, a29, a30, a31, a32, a33, a34, a35, a36, a37, a38, a39, a40, a41, a42, a43, a44, a45, a46, a47, a48, a49, a50, a51, a52, a53, a54, a55, a56, a57, a58, a59, a60, a61, a62, a63, a64, a65, a66, a67, a68, a69, a70, a71, a72, a73, a74, a75, a76, a77, a78, a79, a80, a81, a82, a83, a84, a85, a86, a87, a88, a89, a90, a91, a92, a93, a94, a95, a96, a97, a98, a99, a100, a101, a102, a103, a104, a105, a106, a107, a108, a109, a110, a111, a112, a113, a114, a115, a116, a117, a118, a119, a120, a121, a122, a123, a124, a125, a126, a127, a128, a129, a130, a131, a132, a133, a134, a135, a136, a137, a138, a139, a140, a141, a142, a143, a144, a145, a146, a147, a148, a149, a150, a151, a152, a153, a154, a155, a156, a157, a158, a159, a160, a161, a162, a163, a164, a165, a166, a167, a168, a169, a170, a171, a172, a173, a174, a175, a176, a177, a178, a179, a180, a181, a182, a183, a184, a185, a186, a187, a188, a189, a190, a191, a192, a193, a194, a195, a196, a197, a198, a199, a200, a201, a202, a203, a204, a205, a206, a207, a208, a209, a210, a211, a212, a213, a214, a215, a216, a217, a218, a219, a220, a221, a222, a223, a224, a225, a226, a227, a228, a229, a230, a231, a232, a233, a234, a235, a236, a237, a238, a239, a240, a241, a242, a243, a244, a245, a246, a247, a248, a249, a250, a251, a252, a253, a254, a255, a256, a257, a258, a259, a260, a261, a262, a263, a264, a265, a266, a267, a268, a269, a270, a271, a272, a273, a274, a275, a276, a277, a278, a279, a280, a281, a282, a283, a284, a285, a286, a287, a288, a289, a290, a291, a292, a293, a294, a295, a296, a297, a298, a299, a300, a301, a302, a303, a304, a305, a306, a307, a308, a309, a310, a311, a312, a313, a314, a315, a316, a317, a318, a319, a320, a321, a322, a323, a324, a325, a326, a327, a328, a329, a330, a331, a332, a333, a334, a335, a336, a337, a338, a339, a340, a341, a342, a343, a344, a345, a346, a347, a348, a349, a350, a351, a352, a353, a354, a355, a356, a357, a358, a359, a360, a361, a362, a363, a364, a365, a366, a367, a368, a369, a370], []⟩ W := by
  replace hQ := Lib.hid hQ
  obtain ⟨o1, o2, o3, o4⟩ := hO.cells
  have HR := Lib.hid hR
  have HM := Lib.hid hm
  have HO := Lib.hid hO
  have HSB := Lib.hid hsb
  have hd0 := putA (cls := cls) (x := (id, size, drop)) hR (.inl h0)
  unfold itv at hd0
  dsimp only at hd0
  have HD := Lib.hid hd0
  clear hd0
  have d1 : decide (size < 0) = true := decide_eq_true h0
  clear h0
  clear hR hm hO hsb hcn
  conv => arg 2; whnf
  go_wp2_with (first
    | (go_at_call 11; (with_reducible refine HD.out.mono ?_); rintro e W1 ⟨rfl, hl⟩; obtain ⟨F1, hR1, hO1⟩ := mid_of HR.out HO.out HSB.out hl; obtain ⟨u1, u2, u3, u4⟩ := hO1.cells; have HR1 := Lib.hid hR1; clear hR1 hO1 hl; try dsimp only))
  exact hQ.out _ _ _ _ _ _ _ _ _ _ _ _ _ _ _ _ _ _ _ _ _ _ _ _ _ _ _ _ _ _ _ _ _ _ _ _ _ _ _ _ _ _ _ _ _ _ _ _ _ _ _ _ _ _ _ _ _ _ _ _ _ _ _ _ _ _ _ _ _ _ _ _ _ _ _ _ _ _ (HR.out.stay HR1.out) HM.out

set_option maxRecDepth 1000000 in
set_option maxHeartbeats 16000000 in
theorem rn_put_b {w W : World} {b lb i m n c sb c4 : Nat} {kk cls id size : Int} {drop : Bool} {r l : Nat → Int} {L : List On} {s : LS} {F : Nat → Prop} {p4 : Option Addr} {a0 a1 a3 a4 a6 a7 a8 a9 a10 a11 a14 a17 a18 a19 a20 a21 a22 a23 a24 a25 a26 a27 a28 a29 a30 a31 a32 a33 a34 a35 a36 a37 a38 a39 a40 a41 a42 a43 a44 a45 a46 a47 a48 a49 a50 a51 a52 a53 a54 a55 a56 a57 a58 a59 a60 a61 a62 a63 a64 a65 a66 a67 a68 a69 a70 a71 a72 a73 a74 a75 a76 a77 a78 a79 a80 a81 a82 a83 a84 a85 a86 a87 a88 a89 a90 a91 a92 a93 a94 a95 a96 a97 a98 a99 a100 a101 a102 a103 a104 a105 a106 a107 a108 a109 a110 a111 a112 a113 a114 a115 a116 a117 a118 a119 a120 a121 a122 a123 a124 a125 a126 a127 a128 a129 a130 a131 a132 a133 a134 a135 a136 a137 a138 a139 a140 a141 a142 a143 a144 a145 a146 a147 a148 a149 a150 a151 a152 a153 a154 a155 a156 a157 a158 a159 a160 a161 a162 a163 a164 a165 a166 a167 a168 a169 a170 a171 a172 a173 a174 a175 a176 a177 a178 a179 a180 a181 a182 a183 a184 a185 a186 a187 a188 a189 a190 a191 a192 a193 a194 a195 a196 a197 a198 a199 a200 a201 a202 a203 a204 a205 a206 a207 a208 a209 a210 a211 a212 a213 a214 a215 a216 a217 a218 a219 a220 a221 a222 a223 a224 a225 a226 a227 a228 a229 a230 a231 a232 a233 a234 a235 a236 a237 a238 a239 a240 a241 a242 a243 a244 a245 a246 a247 a248 a249 a250 a251 a252 a253 a254 a255 a256 a257 a258 a259 a260 a261 a262 a263 a264 a265 a266 a267 a268 a269 a270 a271 a272 a273 a274 a275 a276 a277 a278 a279 a280 a281 a282 a283 a284 a285 a286 a287 a288 a289 a290 a291 a292 a293 a294 a295 a296 a297 a298 a299 a300 a301 a302 a303 a304 a305 a306 a307 a308 a309 a310 a311 a312 a313 a314 a315 a316 a317 a318 a319 a320 a321 a322 a323 a324 a325 a326 a327 a328 a329 a330 a331 a332 a333 a334 a335 a336 a337 a338 a339 a340 a341 a342 a343 a344 a345 a346 a347 a348 a349 a350 a351 a352 a353 a354 a355 a356 a357 a358 a359 a360 a361 a362 a363 a364 a365 a366 a367 a368 a369 a370 : Value} {Q0 : Exit → Act → World → Prop}
    (hR : St w b lb r i s L F (.slice p4 m c4) W) (hm : L.length = m) (hi : i < 100) (hO : StepB W sb kk cls id size drop l) (hsb : ¬ F sb) (hcn : cntN L cls m = n) (h0 : ¬ size < 0) (h1 : 1600 < size)
    (hQ : ∀ (z4 z20 z128 z129 z130 z131 z132 z133 z134 z135 z136 z137 z138 z139 z140 z141 z142 z143 z144 z145 z146 z147 z148 z149 z150 z151 z152 z153 z154 z155 z156 z157 z158 z159 z160 z161 z162 z163 z164 z165 z166 z167 z168 z169 z170 z171 z172 z173 z174 z175 z176 z177 z178 z179 z180 z181 z182 z183 z184 z185 z186 z187 z188 z189 z190 z191 z192 z193 z194 z195 z196 : Value) (s' : LS) (L' : List On) (F' : Nat → Prop) (p' : Option Addr) (m' c' : Nat) (W' : World), St w b lb r (i + 1) s' L' F' (.slice p' m' c') W' → L'.length = m' → Q0 .normal ⟨#[a0, a1, .pointer (some ⟨w.heap.size, 0, none⟩), a3, z4, .pointer (some ⟨b, 0, none⟩), a6, a7, a8, a9, a10, a11, (.slice p' m' c'), .pointer (some ⟨lb, 0, none⟩), a14, .pointer (some ⟨sb, 0, none⟩), .int .i64 (n : Int), a17, a18, a19, z20, a21, a22, a23, a24, a25, a26, a27, a28, a29, a30, a31, a32, a33, a34, a35, a36, a37, a38, a39, a40, a41, a42, a43, a44, a45, a46, a47, a48, a49, a50, a51, a52, a53, a54, a55, a56, a57, a58, a59, a60, a61, a62, a63, a64, a65, a66, a67, a68, a69, a70, a71, a72, a73, a74, a75, a76, a77, a78, a79, a80, a81, a82, a83, a84, a85, a86, a87, a88, a89, a90, a91, a92, a93, a94, a95, a96, a97, a98, a99, a100, a101, a102, a103, a104, a105, a106, a107, a108, a109, a110, a111, a112, a113, a114, a115, a116, a117, a118, a119, a120, a121, a122, a123, a124, a125, a126, a127, z128, z129, z130, z131, z132, z133, z134, z135, z136, z137, z138, z139, z140, z141, z142, z143, z144, z145, z146, z147, z148, z149, z150, z151, z152, z153, z154, z155, z156, z157, z158, z159, z160, z161, z162, z163, z164, z165, z166, z167, z168, z169, z170, z171, z172, z173, z174, z175, z176, z177, z178, z179, z180, z181, z182, z183, z184, z185, z186, z187, z188, z189, z190, z191, z192, z193, z194, z195, z196, a197, a198, a199, a200, a201, a202, a203, a204, a205, a206, a207, a208, a209, a210, a211, a212, a213, a214, a215, a216, a217, a218, a219, a220, a221, a222, a223, a224, a225, a226, a227, a228, a229, a230, a231, a232, a233, a234, a235, a236, a237, a238, a239, a240, a241, a242, a243, a244, a245, a246, a247, a248, a249, a250, a251, a252, a253, a254, a255, a256, a257, a258, a259, a260, a261, a262, a263, a264, a265, a266, a267, a268, a269, a270, a271, a272, a273, a274, a275, a276, a277, a278, a279, a280, a281, a282, a283, a284, a285, a286, a287, a288, a289, a290, a291, a292, a293, a294, a295, a296, a297, a298, a299, a300, a301, a302, a303, a304, a305, a306, a307, a308, a309, a310, a311, a312, a313, a314, a315, a316, a317, a318, a319, a320, a321, a322, a323, a324, a325, a326, a327, a328, a329, a330, a331, a332, a333, a334, a335, a336, a337, a338, a339, a340, a341, a342, a343, a344, a345, a346, a347, a348, a349, a350, a351, a352, a353, a354, a355, a356, a357, a358, a359, a360, a361, a362, a363, a364, a365, a366, a367, a368, a369, a370], []⟩ W') :
    Code.wp Try.prog (partOf 31 0) Q0 ⟨#[a0, a1, .pointer (some ⟨w.heap.size, 0, none⟩), a3, a4, .pointer (some ⟨b, 0, none⟩), a6, a7, a8, a9, a10, a11, .slice p4 m c4, .pointer (some ⟨lb, 0, none⟩), a14, .pointer (some ⟨sb, 0, none⟩), .int .i64 (n : Int), a17, a18, a19, a20, a21, a22, a23, a24, a25, a26, a27, a28, a29, a30, a31, a32, a33, a34, a35, a36, a37, a38, a39, a40, a41, a42, a43, a44, a45, a46, a47, a48, a49, a50, a51, a52, a53, a54, a55, a56, a57, a58, a59, a60, a61, a62, a63, a64, a65, a66, a67, a68, a69, a70, a71, a72, a73, a74, a75, a76, a77, a78, a79, a80, a81, a82, a83, a84, a85, a86, a87, a88, a89, a90, a91, a92, a93, a94, a95, a96, a97, a98, a99, a100, a101, a102, a103, a104, a105, a106, a107, a108, a109, a110, a111, a112, a113, a114, a115, a116, a117, a118, a119, a120, a121, a122, a123, a124, a125, a126, a127, a128, a129, a130, a131, a132, a133, a134, a135, a136, a137, a138, a139, a140, a141, a142, a143, a144, a145, a146, a147, a148, a149, a150, a151, a152, a153, a154, a155, a156, a157, a158, a159, a160, a161, a162, a163, a164, a165, a166, a167, a168, a169, a170, a171, a172, a173, a174, a175, a176, a177, a178, a179, a180, a181, a182, a183, a184, a185, a186, a187, a188, a189, a190, a191, a192, a193, a194, a195, a196, a197, a198, a199, a200, a201, a202, a203, a204, a205, a206, a207, a208, a209, a210, a211, a212, a213, a214, a215, a216, a217, a218, a219, a220, a221, a222, a223, a224, a225, a226, a227, a228, a229, a230, a231, a232, a233, a234, a235, a236, a237, a238, a239, a240, a241, a242, a243, a244, a245, a246, a247, a248, a249, a250, a251, a252, a253, a254, a255, a256, a257, a258, a259, a260, a261, a262, a263, a264, a265, a266, a267, a268, a269, a270, a271, a272, a273, a274, a275, a276, a277, a278, a279, a280, a281, a282, a283, a284, a285, a286, a287, a288, a289, a290, a291, a292, a293, a294, a295, a296, a297, a298, a299, a300, a301, a302, a303, a304, a305, a306, a307, a308, a309, a310, a311, a312, a313, a314, a315, a316, a317, a318, a319, a320, a321, a322, a323, a324, a325, a326, a327, a328, a329, a330, a331, a332, a333, a334, a335, a336, a337, a338, a339, a340, a341, a342, a343, a344, a345, a346, a347, a348, a349, a350, a351, a352, a353, a354, a355, a356, a357, a358, a359, a360, a361, a362, a363, a364, a365, a366, a367, a368, a369, a370], []⟩ W := by
  replace hQ := Lib.hid hQ
  obtain ⟨o1, o2, o3, o4⟩ := hO.cells
  have HR := Lib.hid hR
  have HM := Lib.hid hm
  have HO := Lib.hid hO
  have HSB := Lib.hid hsb
  have hd0 := putA (cls := cls) (x := (id, size, drop)) hR (.inr h1)
  unfold itv at hd0
  dsimp only at hd0
  have HD := Lib.hid hd0
  clear hd0
  have d1 : decide (size < 0) = false := decide_eq_false h0
  have d2 : decide (1600 < size) = true := decide_eq_true h1
  clear h0 h1
  clear hR hm hO hsb hcn
  conv => arg 2; whnf
  go_wp2_with (first
    | (go_at_call 11; (with_reducible refine HD.out.mono ?_); rintro e W1 ⟨rfl, hl⟩; obtain ⟨F1, hR1, hO1⟩ := mid_of HR.out HO.out HSB.out hl; obtain ⟨u1, u2, u3, u4⟩ := hO1.cells; have HR1 := Lib.hid hR1; clear hR1 hO1 hl; try dsimp only))
  exact hQ.out _ _ _ _ _ _ _ _ _ _ _ _ _ _ _ _ _ _ _ _ _ _ _ _ _ _ _ _ _ _ _ _ _ _ _ _ _ _ _ _ _ _ _ _ _ _ _ _ _ _ _ _ _ _ _ _ _ _ _ _ _ _ _ _ _ _ _ _ _ _ _ _ _ _ _ _ _ _ (HR.out.stay HR1.out) HM.out

set_option maxRecDepth 1000000 in
set_option maxHeartbeats 16000000 in
theorem rn_put_c {w W : World} {b lb i m n c sb c4 : Nat} {kk cls id size : Int} {drop : Bool} {r l : Nat → Int} {L : List On} {s : LS} {F : Nat → Prop} {p4 : Option Addr} {a0 a1 a3 a4 a6 a7 a8 a9 a10 a11 a14 a17 a18 a19 a20 a21 a22 a23 a24 a25 a26 a27 a28 a29 a30 a31 a32 a33 a34 a35 a36 a37 a38 a39 a40 a41 a42 a43 a44 a45 a46 a47 a48 a49 a50 a51 a52 a53 a54 a55 a56 a57 a58 a59 a60 a61 a62 a63 a64 a65 a66 a67 a68 a69 a70 a71 a72 a73 a74 a75 a76 a77 a78 a79 a80 a81 a82 a83 a84 a85 a86 a87 a88 a89 a90 a91 a92 a93 a94 a95 a96 a97 a98 a99 a100 a101 a102 a103 a104 a105 a106 a107 a108 a109 a110 a111 a112 a113 a114 a115 a116 a117 a118 a119 a120 a121 a122 a123 a124 a125 a126 a127 a128 a129 a130 a131 a132 a133 a134 a135 a136 a137 a138 a139 a140 a141 a142 a143 a144 a145 a146 a147 a148 a149 a150 a151 a152 a153 a154 a155 a156 a157 a158 a159 a160 a161 a162 a163 a164 a165 a166 a167 a168 a169 a170 a171 a172 a173 a174 a175 a176 a177 a178 a179 a180 a181 a182 a183 a184 a185 a186 a187 a188 a189 a190 a191 a192 a193 a194 a195 a196 a197 a198 a199 a200 a201 a202 a203 a204 a205 a206 a207 a208 a209 a210 a211 a212 a213 a214 a215 a216 a217 a218 a219 a220 a221 a222 a223 a224 a225 a226 a227 a228 a229 a230 a231 a232 a233 a234 a235 a236 a237 a238 a239 a240 a241 a242 a243 a244 a245 a246 a247 a248 a249 a250 a251 a252 a253 a254 a255 a256 a257 a258 a259 a260 a261 a262 a263 a264 a265 a266 a267 a268 a269 a270 a271 a272 a273 a274 a275 a276 a277 a278 a279 a280 a281 a282 a283 a284 a285 a286 a287 a288 a289 a290 a291 a292 a293 a294 a295 a296 a297 a298 a299 a300 a301 a302 a303 a304 a305 a306 a307 a308 a309 a310 a311 a312 a313 a314 a315 a316 a317 a318 a319 a320 a321 a322 a323 a324 a325 a326 a327 a328 a329 a330 a331 a332 a333 a334 a335 a336 a337 a338 a339 a340 a341 a342 a343 a344 a345 a346 a347 a348 a349 a350 a351 a352 a353 a354 a355 a356 a357 a358 a359 a360 a361 a362 a363 a364 a365 a366 a367 a368 a369 a370 : Value} {Q0 : Exit → Act → World → Prop}
    (hR : St w b lb r i s L F (.slice p4 m c4) W) (hm : L.length = m) (hi : i < 100) (hO : StepB W sb kk cls id size drop l) (hsb : ¬ F sb) (hcn : cntN L cls m = n) (h0 : ¬ size < 0) (h1 : ¬ 1600 < size) (h2 : cls < 0)
    (hQ : ∀ (z4 z20 z128 z129 z130 z131 z132 z133 z134 z135 z136 z137 z138 z139 z140 z141 z142 z143 z144 z145 z146 z147 z148 z149 z150 z151 z152 z153 z154 z155 z156 z157 z158 z159 z160 z161 z162 z163 z164 z165 z166 z167 z168 z169 z170 z171 z172 z173 z174 z175 z176 z177 z178 z179 z180 z181 z182 z183 z184 z185 z186 z187 z188 z189 z190 z191 z192 z193 z194 z195 z196 : Value) (s' : LS) (L' : List On) (F' : Nat → Prop) (p' : Option Addr) (m' c' : Nat) (W' : World), St w b lb r (i + 1) s' L' F' (.slice p' m' c') W' → L'.length = m' → Q0 .normal ⟨#[a0, a1, .pointer (some ⟨w.heap.size, 0, none⟩), a3, z4, .pointer (some ⟨b, 0, none⟩), a6, a7, a8, a9, a10, a11, (.slice p' m' c'), .pointer (some ⟨lb, 0, none⟩), a14, .pointer (some ⟨sb, 0, none⟩), .int .i64 (n : Int), a17, a18, a19, z20, a21, a22, a23, a24, a25, a26, a27, a28, a29, a30, a31, a32, a33, a34, a35, a36, a37, a38, a39, a40, a41, a42, a43, a44, a45, a46, a47, a48, a49, a50, a51, a52, a53, a54, a55, a56, a57, a58, a59, a60, a61, a62, a63, a64, a65, a66, a67, a68, a69, a70, a71, a72, a73, a74, a75, a76, a77, a78, a79, a80, a81, a82, a83, a84, a85, a86, a87, a88, a89, a90, a91, a92, a93, a94, a95, a96, a97, a98, a99, a100, a101, a102, a103, a104, a105, a106, a107, a108, a109, a110, a111, a112, a113, a114, a115, a116, a117, a118, a119, a120, a121, a122, a123, a124, a125, a126, a127, z128, z129, z130, z131, z132, z133, z134, z135, z136, z137, z138, z139, z140, z141, z142, z143, z144, z145, z146, z147, z148, z149, z150, z151, z152, z153, z154, z155, z156, z157, z158, z159, z160, z161, z162, z163, z164, z165, z166, z167, z168, z169, z170, z171, z172, z173, z174, z175, z176, z177, z178, z179, z180, z181, z182, z183, z184, z185, z186, z187, z188, z189, z190, z191, z192, z193, z194, z195, z196, a197, a198, a199, a200, a201, a202, a203, a204, a205, a206, a207, a208, a209, a210, a211, a212, a213, a214, a215, a216, a217, a218, a219, a220, a221, a222, a223, a224, a225, a226, a227, a228, a229, a230, a231, a232, a233, a234, a235, a236, a237, a238, a239, a240, a241, a242, a243, a244, a245, a246, a247, a248, a249, a250, a251, a252, a253, a254, a255, a256, a257, a258, a259, a260, a261, a262, a263, a264, a265, a266, a267, a268, a269, a270, a271, a272, a273, a274, a275, a276, a277, a278, a279, a280, a281, a282, a283, a284, a285, a286, a287, a288, a289, a290, a291, a292, a293, a294, a295, a296, a297, a298, a299, a300, a301, a302, a303, a304, a305, a306, a307, a308, a309, a310, a311, a312, a313, a314, a315, a316, a317, a318, a319, a320, a321, a322, a323, a324, a325, a326, a327, a328, a329, a330, a331, a332, a333, a334, a335, a336, a337, a338, a339, a340, a341, a342, a343, a344, a345, a346, a347, a348, a349, a350, a351, a352, a353, a354, a355, a356, a357, a358, a359, a360, a361, a362, a363, a364, a365, a366, a367, a368, a369, a370], []⟩ W') :
    Code.wp Try.prog (partOf 31 0) Q0 ⟨#[a0, a1, .pointer (some ⟨w.heap.size, 0, none⟩), a3, a4, .pointer (some ⟨b, 0, none⟩), a6, a7, a8, a9, a10, a11, .slice p4 m c4, .pointer (some ⟨lb, 0, none⟩), a14, .pointer (some ⟨sb, 0, none⟩), .int .i64 (n : Int), a17, a18, a19, a20, a21, a22, a23, a24, a25, a26, a27, a28, a29, a30, a31, a32, a33, a34, a35, a36, a37, a38, a39, a40, a41, a42, a43, a44, a45, a46, a47, a48, a49, a50, a51, a52, a53, a54, a55, a56, a57, a58, a59, a60, a61, a62, a63, a64, a65, a66, a67, a68, a69, a70, a71, a72, a73, a74, a75, a76, a77, a78, a79, a80, a81, a82, a83, a84, a85, a86, a87, a88, a89, a90, a91, a92, a93, a94, a95, a96, a97, a98, a99, a100, a101, a102, a103, a104, a105, a106, a107, a108, a109, a110, a111, a112, a113, a114, a115, a116, a117, a118, a119, a120, a121, a122, a123, a124, a125, a126, a127, a128, a129, a130, a131, a132, a133, a134, a135, a136, a137, a138, a139, a140, a141, a142, a143, a144, a145, a146, a147, a148, a149, a150, a151, a152, a153, a154, a155, a156, a157, a158, a159, a160, a161, a162, a163, a164, a165, a166, a167, a168, a169, a170, a171, a172, a173, a174, a175, a176, a177, a178, a179, a180, a181, a182, a183, a184, a185, a186, a187, a188, a189, a190, a191, a192, a193, a194, a195, a196, a197, a198, a199, a200, a201, a202, a203, a204, a205, a206, a207, a208, a209, a210, a211, a212, a213, a214, a215, a216, a217, a218, a219, a220, a221, a222, a223, a224, a225, a226, a227, a228, a229, a230, a231, a232, a233, a234, a235, a236, a237, a238, a239, a240, a241, a242, a243, a244, a245, a246, a247, a248, a249, a250, a251, a252, a253, a254, a255, a256, a257, a258, a259, a260, a261, a262, a263, a264, a265, a266, a267, a268, a269, a270, a271, a272, a273, a274, a275, a276, a277, a278, a279, a280, a281, a282, a283, a284, a285, a286, a287, a288, a289, a290, a291, a292, a293, a294, a295, a296, a297, a298, a299, a300, a301, a302, a303, a304, a305, a306, a307, a308, a309, a310, a311, a312, a313, a314, a315, a316, a317, a318, a319, a320, a321, a322, a323, a324, a325, a326, a327, a328, a329, a330, a331, a332, a333, a334, a335, a336, a337, a338, a339, a340, a341, a342, a343, a344, a345, a346, a347, a348, a349, a350, a351, a352, a353, a354, a355, a356, a357, a358, a359, a360, a361, a362, a363, a364, a365, a366, a367, a368, a369, a370], []⟩ W := by
  replace hQ := Lib.hid hQ
  obtain ⟨o1, o2, o3, o4⟩ := hO.cells
  have HR := Lib.hid hR
  have HM := Lib.hid hm
  have HO := Lib.hid hO
  have HSB := Lib.hid hsb
  have hd0 := putP (cls := cls) (x := (id, size, drop)) hR (by intro h; rcases h with h | h; exact h0 h; exact h1 h) (.inl h2)
  unfold itv at hd0
  dsimp only at hd0
  have HD := Lib.hid hd0
  clear hd0
  have d1 : decide (size < 0) = false := decide_eq_false h0
  have d2 : decide (1600 < size) = false := decide_eq_false h1
  have d3 : decide (cls < 0) = true := decide_eq_true h2
  clear h0 h1 h2
  clear hR hm hO hsb hcn
  conv => arg 2; whnf
  go_wp2_with (first
    | (go_at_call 11; (with_reducible refine HD.out.mono ?_); rintro e W1 ⟨rfl, hl⟩; obtain ⟨F1, hR1, hO1⟩ := mid_of HR.out HO.out HSB.out hl; obtain ⟨u1, u2, u3, u4⟩ := hO1.cells; have HR1 := Lib.hid hR1; clear hR1 hO1 hl; try dsimp only))
  exact hQ.out _ _ _ _ _ _ _ _ _ _ _ _ _ _ _ _ _ _ _ _ _ _ _ _ _ _ _ _ _ _ _ _ _ _ _ _ _ _ _ _ _ _ _ _ _ _ _ _ _ _ _ _ _ _ _ _ _ _ _ _ _ _ _ _ _ _ _ _ _ _ _ _ _ _ _ _ _ _ (HR.out.stay HR1.out) HM.out

set_option maxRecDepth 1000000 in
set_option maxHeartbeats 16000000 in
theorem rn_put_d {w W : World} {b lb i m n c sb c4 : Nat} {kk cls id size : Int} {drop : Bool} {r l : Nat → Int} {L : List On} {s : LS} {F : Nat → Prop} {p4 : Option Addr} {a0 a1 a3 a4 a6 a7 a8 a9 a10 a11 a14 a17 a18 a19 a20 a21 a22 a23 a24 a25 a26 a27 a28 a29 a30 a31 a32 a33 a34 a35 a36 a37 a38 a39 a40 a41 a42 a43 a44 a45 a46 a47 a48 a49 a50 a51 a52 a53 a54 a55 a56 a57 a58 a59 a60 a61 a62 a63 a64 a65 a66 a67 a68 a69 a70 a71 a72 a73 a74 a75 a76 a77 a78 a79 a80 a81 a82 a83 a84 a85 a86 a87 a88 a89 a90 a91 a92 a93 a94 a95 a96 a97 a98 a99 a100 a101 a102 a103 a104 a105 a106 a107 a108 a109 a110 a111 a112 a113 a114 a115 a116 a117 a118 a119 a120 a121 a122 a123 a124 a125 a126 a127 a128 a129 a130 a131 a132 a133 a134 a135 a136 a137 a138 a139 a140 a141 a142 a143 a144 a145 a146 a147 a148 a149 a150 a151 a152 a153 a154 a155 a156 a157 a158 a159 a160 a161 a162 a163 a164 a165 a166 a167 a168 a169 a170 a171 a172 a173 a174 a175 a176 a177 a178 a179 a180 a181 a182 a183 a184 a185 a186 a187 a188 a189 a190 a191 a192 a193 a194 a195 a196 a197 a198 a199 a200 a201 a202 a203 a204 a205 a206 a207 a208 a209 a210 a211 a212 a213 a214 a215 a216 a217 a218 a219 a220 a221 a222 a223 a224 a225 a226 a227 a228 a229 a230 a231 a232 a233 a234 a235 a236 a237 a238 a239 a240 a241 a242 a243 a244 a245 a246 a247 a248 a249 a250 a251 a252 a253 a254 a255 a256 a257 a258 a259 a260 a261 a262 a263 a264 a265 a266 a267 a268 a269 a270 a271 a272 a273 a274 a275 a276 a277 a278 a279 a280 a281 a282 a283 a284 a285 a286 a287 a288 a289 a290 a291 a292 a293 a294 a295 a296 a297 a298 a299 a300 a301 a302 a303 a304 a305 a306 a307 a308 a309 a310 a311 a312 a313 a314 a315 a316 a317 a318 a319 a320 a321 a322 a323 a324 a325 a326 a327 a328 a329 a330 a331 a332 a333 a334 a335 a336 a337 a338 a339 a340 a341 a342 a343 a344 a345 a346 a347 a348 a349 a350 a351 a352 a353 a354 a355 a356 a357 a358 a359 a360 a361 a362 a363 a364 a365 a366 a367 a368 a369 a370 : Value} {Q0 : Exit → Act → World → Prop}
    (hR : St w b lb r i s L F (.slice p4 m c4) W) (hm : L.length = m) (hi : i < 100) (hO : StepB W sb kk cls id size drop l) (hsb : ¬ F sb) (hcn : cntN L cls m = n) (h0 : ¬ size < 0) (h1 : ¬ 1600 < size) (h2 : ¬ cls < 0) (h3 : 7 < cls)
    (hQ : ∀ (z4 z20 z128 z129 z130 z131 z132 z133 z134 z135 z136 z137 z138 z139 z140 z141 z142 z143 z144 z145 z146 z147 z148 z149 z150 z151 z152 z153 z154 z155 z156 z157 z158 z159 z160 z161 z162 z163 z164 z165 z166 z167 z168 z169 z170 z171 z172 z173 z174 z175 z176 z177 z178 z179 z180 z181 z182 z183 z184 z185 z186 z187 z188 z189 z190 z191 z192 z193 z194 z195 z196 : Value) (s' : LS) (L' : List On) (F' : Nat → Prop) (p' : Option Addr) (m' c' : Nat) (W' : World), St w b lb r (i + 1) s' L' F' (.slice p' m' c') W' → L'.length = m' → Q0 .normal ⟨#[a0, a1, .pointer (some ⟨w.heap.size, 0, none⟩), a3, z4, .pointer (some ⟨b, 0, none⟩), a6, a7, a8, a9, a10, a11, (.slice p' m' c'), .pointer (some ⟨lb, 0, none⟩), a14, .pointer (some ⟨sb, 0, none⟩), .int .i64 (n : Int), a17, a18, a19, z20, a21, a22, a23, a24, a25, a26, a27, a28, a29, a30, a31, a32, a33, a34, a35, a36, a37, a38, a39, a40, a41, a42, a43, a44, a45, a46, a47, a48, a49, a50, a51, a52, a53, a54, a55, a56, a57, a58, a59, a60, a61, a62, a63, a64, a65, a66, a67, a68, a69, a70, a71, a72, a73, a74, a75, a76, a77, a78, a79, a80, a81, a82, a83, a84, a85, a86, a87, a88, a89, a90, a91, a92, a93, a94, a95, a96, a97, a98, a99, a100, a101, a102, a103, a104, a105, a106, a107, a108, a109, a110, a111, a112, a113, a114, a115, a116, a117, a118, a119, a120, a121, a122, a123, a124, a125, a126, a127, z128, z129, z130, z131, z132, z133, z134, z135, z136, z137, z138, z139, z140, z141, z142, z143, z144, z145, z146, z147, z148, z149, z150, z151, z152, z153, z154, z155, z156, z157, z158, z159, z160, z161, z162, z163, z164, z165, z166, z167, z168, z169, z170, z171, z172, z173, z174, z175, z176, z177, z178, z179, z180, z181, z182, z183, z184, z185, z186, z187, z188, z189, z190, z191, z192, z193, z194, z195, z196, a197, a198, a199, a200, a201, a202, a203, a204, a205, a206, a207, a208, a209, a210, a211, a212, a213, a214, a215, a216, a217, a218, a219, a220, a221, a222, a223, a224, a225, a226, a227, a228, a229, a230, a231, a232, a233, a234, a235, a236, a237, a238, a239, a240, a241, a242, a243, a244, a245, a246, a247, a248, a249, a250, a251, a252, a253, a254, a255, a256, a257, a258, a259, a260, a261, a262, a263, a264, a265, a266, a267, a268, a269, a270, a271, a272, a273, a274, a275, a276, a277, a278, a279, a280, a281, a282, a283, a284, a285, a286, a287, a288, a289, a290, a291, a292, a293, a294, a295, a296, a297, a298, a299, a300, a301, a302, a303, a304, a305, a306, a307, a308, a309, a310, a311, a312, a313, a314, a315, a316, a317, a318, a319, a320, a321, a322, a323, a324, a325, a326, a327, a328, a329, a330, a331, a332, a333, a334, a335, a336, a337, a338, a339, a340, a341, a342, a343, a344, a345, a346, a347, a348, a349, a350, a351, a352, a353, a354, a355, a356, a357, a358, a359, a360, a361, a362, a363, a364, a365, a366, a367, a368, a369, a370], []⟩ W') :
    Code.wp Try.prog (partOf 31 0) Q0 ⟨#[a0, a1, .pointer (some ⟨w.heap.size, 0, none⟩), a3, a4, .pointer (some ⟨b, 0, none⟩), a6, a7, a8, a9, a10, a11, .slice p4 m c4, .pointer (some ⟨lb, 0, none⟩), a14, .pointer (some ⟨sb, 0, none⟩), .int .i64 (n : Int), a17, a18, a19, a20, a21, a22, a23, a24, a25, a26, a27, a28, a29, a30, a31, a32, a33, a34, a35, a36, a37, a38, a39, a40, a41, a42, a43, a44, a45, a46, a47, a48, a49, a50, a51, a52, a53, a54, a55, a56, a57, a58, a59, a60, a61, a62, a63, a64, a65, a66, a67, a68, a69, a70, a71, a72, a73, a74, a75, a76, a77, a78, a79, a80, a81, a82, a83, a84, a85, a86, a87, a88, a89, a90, a91, a92, a93, a94, a95, a96, a97, a98, a99, a100, a101, a102, a103, a104, a105, a106, a107, a108, a109, a110, a111, a112, a113, a114, a115, a116, a117, a118, a119, a120, a121, a122, a123, a124, a125, a126, a127, a128, a129, a130, a131, a132, a133, a134, a135, a136, a137, a138, a139, a140, a141, a142, a143, a144, a145, a146, a147, a148, a149, a150, a151, a152, a153, a154, a155, a156, a157, a158, a159, a160, a161, a162, a163, a164, a165, a166, a167, a168, a169, a170, a171, a172, a173, a174, a175, a176, a177, a178, a179, a180, a181, a182, a183, a184, a185, a186, a187, a188, a189, a190, a191, a192, a193, a194, a195, a196, a197, a198, a199, a200, a201, a202, a203, a204, a205, a206, a207, a208, a209, a210, a211, a212, a213, a214, a215, a216, a217, a218, a219, a220, a221, a222, a223, a224, a225, a226, a227, a228, a229, a230, a231, a232, a233, a234, a235, a236, a237, a238, a239, a240, a241, a242, a243, a244, a245, a246, a247, a248, a249, a250, a251, a252, a253, a254, a255, a256, a257, a258, a259, a260, a261, a262, a263, a264, a265, a266, a267, a268, a269, a270, a271, a272, a273, a274, a275, a276, a277, a278, a279, a280, a281, a282, a283, a284, a285, a286, a287, a288, a289, a290, a291, a292, a293, a294, a295, a296, a297, a298, a299, a300, a301, a302, a303, a304, a305, a306, a307, a308, a309, a310, a311, a312, a313, a314, a315, a316, a317, a318, a319, a320, a321, a322, a323, a324, a325, a326, a327, a328, a329, a330, a331, a332, a333, a334, a335, a336, a337, a338, a339, a340, a341, a342, a343, a344, a345, a346, a347, a348, a349, a350, a351, a352, a353, a354, a355, a356, a357, a358, a359, a360, a361, a362, a363, a364, a365, a366, a367, a368, a369, a370], []⟩ W := by
  replace hQ := Lib.hid hQ
  obtain ⟨o1, o2, o3, o4⟩ := hO.cells
  have HR := Lib.hid hR
  have HM := Lib.hid hm
  have HO := Lib.hid hO
  have HSB := Lib.hid hsb
  have hd0 := putP (cls := cls) (x := (id, size, drop)) hR (by intro h; rcases h with h | h; exact h0 h; exact h1 h) (.inr (by omega))
  unfold itv at hd0
  dsimp only at hd0
  have HD := Lib.hid hd0
  clear hd0
  have d1 : decide (size < 0) = false := decide_eq_false h0
  have d2 : decide (1600 < size) = false := decide_eq_false h1
  have d3 : decide (cls < 0) = false := decide_eq_false h2
  have d4 : decide (7 < cls) = true := decide_eq_true h3
  clear h0 h1 h2 h3
  clear hR hm hO hsb hcn
  conv => arg 2; whnf
  go_wp2_with (first
    | (go_at_call 11; (with_reducible refine HD.out.mono ?_); rintro e W1 ⟨rfl, hl⟩; obtain ⟨F1, hR1, hO1⟩ := mid_of HR.out HO.out HSB.out hl; obtain ⟨u1, u2, u3, u4⟩ := hO1.cells; have HR1 := Lib.hid hR1; clear hR1 hO1 hl; try dsimp only))
  exact hQ.out _ _ _ _ _ _ _ _ _ _ _ _ _ _ _ _ _ _ _ _ _ _ _ _ _ _ _ _ _ _ _ _ _ _ _ _ _ _ _ _ _ _ _ _ _ _ _ _ _ _ _ _ _ _ _ _ _ _ _ _ _ _ _ _ _ _ _ _ _ _ _ _ _ _ _ _ _ _ (HR.out.stay HR1.out) HM.out

end Go.Proofs.Ytpgcadceljalpaa
