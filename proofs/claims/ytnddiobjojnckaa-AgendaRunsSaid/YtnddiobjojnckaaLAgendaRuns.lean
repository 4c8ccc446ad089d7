/- AgendaRuns: the law's walk. Written by gen_agrun.py. -/
import Derived.Test.YtnddiobjojnckaaAgRunD
namespace Go.Proofs.Ytnddiobjojnckaa
open Go.RowKit Go.Joins

set_option maxRecDepth 20000 in
set_option maxHeartbeats 4000000 in
theorem runs_any (p : Option Addr) (n c : Nat) (os : List Ope) (w : World) (h : OArg w (.slice p n c) os) (hn : os.length = n) :
    Calls Try.prog 3 #[.slice p n c] w fun e w' => e = .returned (.bool true) ∧ Below w.heap.size w w' := by
  obtain ⟨i0, hi0, hz0, hz1, hz2⟩ := info_parts Try.infoItem
  have HIi := Lib.hid hi0
  have HZ0 := Lib.hid hz0
  have HZ1 := Lib.hid hz1
  have HZ2 := Lib.hid hz2
  clear hi0 hz0 hz1 hz2
  have HH := Lib.hid head_ret
  have HN := Lib.hid AgI.new_st
  have HO := Lib.hid h
  have HLN := Lib.hid hn
  clear h hn
  go_enter Try.func3, Try.ntmps3
  refine wp_hideP (fun cx ax kx vx wx hx => by cases kx <;> exact hx) (fun Q9 hQ9 hP9 => ?_)
  go_wp2_with (first
    | (go_at_call 4; (with_reducible refine (HH.out _).mono ?_); rintro e w1 ⟨rfl, hb⟩; have HB := Lib.hid hb; clear hb)
    | (go_at_call 5; (with_reducible refine (HN.out _).mono ?_); rintro e w2 ⟨g, rfl, hst, hb⟩; have HS := Lib.hid hst; have HBW : Hid (w.heap.size ≤ w1.heap.size) := Lib.hid HB.out.size; replace HB := Lib.hid (AgI.bTr HB.out hb); clear hst hb))
  have HF := Lib.hid (run_first HS.out HB.out)
  clear HS HB HN HH
  go_loopw [4, 5, 6, 7] (fun v4 v5 v6 v7 wr => RunRel w w1.heap.size g n v4 v5 v6 v7 wr) (fun _ _ _ v7 _ => n - (intOf v7).toNat)
  case atStart => exact ⟨0, 0, 0, [], by omega, by omega, rfl, rfl, rfl, HF.out⟩
  case round =>
    clear HF
    obtain ⟨i, now, put, L, hi, hi2, rfl, rfl, rfl, hR⟩ := hrel
    rcases Nat.lt_or_ge i n with hlt | hge
    · have hd : decide ((i : Int) < (n : Int)) = true := decide_eq_true (by omega)
      rcases Nat.lt_or_ge i 120 with hl2 | hg2
      · have hd2 : decide ((i : Int) < 120) = true := decide_eq_true (by omega)
        obtain ⟨bo, oo, rfl, hro⟩ := HO.out.at HLN.out (by omega)
        have hcell := (hro.below hR.2.2.2.2.2).2 i (by rw [HLN.out]; exact hlt)
        obtain ⟨e0, e1, e2, e3⟩ := hcell
        have hin := (HO.out.1 i (by rw [HLN.out]; exact hlt))
        generalize oK os i = k at *
        generalize oA os i = x at *
        generalize oB os i = y at *
        generalize oC os i = z at *
        obtain ⟨p4, c4, rfl⟩ := hR.2.2.2.2.1.form
        obtain ⟨m, hm⟩ : ∃ m, L.length = m := ⟨_, rfl⟩
        rw [hm] at hR ⊢
        have HR := Lib.hid hR
        have HM := Lib.hid hm
        clear hm hR hro
        go_upto_if 31 with (fail)
        refine wp_cond_true (by go_simp) ?_
        go_step
        go_step
        go_step
        apply wp_seq_k
        intro K hK
        refine rn_body HR.out HBW.out HM.out hlt hl2 e0 e1 e2 e3 (fun cx ax kx vx wx hx => hP9 cx ax kx vx wx hx) ?_
        intro z2 z8 z9 z10 z11 z12 z13 z14 z15 z16 z17 z18 z19 z34 z35 z36 z37 z38 z39 z40 z41 z42 z43 z44 z45 z46 z47 z48 z49 z50 z51 z52 z53 z54 z55 z56 z57 z58 z59 z60 z61 z62 z63 z64 z65 z66 z67 z68 z69 z70 z71 z72 z73 z74 z75 z76 z77 z78 z79 z80 z81 z82 z83 z84 z85 z86 z87 z88 z89 z90 z91 z92 z93 z94 z95 z96 z97 z98 z99 z100 z101 z102 z103 z104 z105 z106 z107 z108 z109 z110 z111 z112 z113 z114 z115 z116 z117 z118 z119 z120 z121 z122 z123 z124 z125 z126 z127 z128 z129 z130 z131 z132 z133 z134 z135 z136 z137 z138 z139 z140 z141 z142 z143 z144 z145 z146 z147 z148 z149 z150 z151 z152 z153 z154 z155 z156 z157 z158 z159 z160 z161 z162 z163 z164 z165 z166 z167 z168 z169 z170 z171 z172 z173 z174 z175 z176 z177 z178 z179 z180 z181 z182 z183 z184 z185 z186 z187 z188 z189 z190 z191 z192 z193 z194 z195 z196 z197 z198 z199 z200 z201 z202 z203 z204 z205 z206 z207 z208 z209 z210 z211 z212 z213 z214 z215 z216 z217 z218 z219 z220 z221 z222 z223 z224 z225 z226 z227 z228 z229 z230 z231 z232 z233 z234 z235 z236 z237 z238 z239 z240 z241 z242 z243 z244 z245 z246 z247 z248 z249 z250 z251 z252 z253 z254 z255 p' m' c' L' now' put' W' hrn hl
        refine hK _ _ ?_
        have HRN := Lib.hid hrn
        have HM5 := Lib.hid hl
        clear hrn hl hK
        have ei : wrap64 ((i : Int) + 1) = ((i + 1 : Nat) : Int) := by unfold wrap64; omega
        go_wp2_with fail
        go_roundw
        case rel => exact ⟨i + 1, now', put', L', by omega, by omega, rfl, rfl, by go_num, HRN.out⟩
        case measure => simp [intOf]; omega
      · obtain rfl : i = 120 := by omega
        have HB := Lib.hid hR.2.2.2.2.2
        clear hR
        go_wp2_with fail
        refine hQ9 _ _ _ ?_
        go_ret
        exact ⟨rfl, HB.out⟩
    · obtain rfl : i = n := by omega
      have hd : decide ((i : Int) < (i : Int)) = false := decide_eq_false (by omega)
      have HB := Lib.hid hR.2.2.2.2.2
      clear hR
      go_wp2_with fail
      refine hQ9 _ _ _ ?_
      go_ret
      exact ⟨rfl, HB.out⟩

end Go.Proofs.Ytnddiobjojnckaa
