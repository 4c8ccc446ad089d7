/- Package ether: the document's example. -/
import Derived.Test.YtbpkjljienadiaaEDecode
namespace Go.Proofs.Ytbpkjljienadiaa
open Go.RowKit Go.Joins

def Fr.first : Fr := { Fr.zero with typ := 35063 }
def HC : Array Value :=
  #[.int .u8 0, .int .u8 0, .int .u8 0, .int .u8 0, .int .u8 0, .int .u8 0, .int .u8 0, .int .u8 0, .int .u8 0, .int .u8 0, .int .u8 0, .int .u8 0, .bool false, .int .i64 0, .int .i64 0, .bool false, .bool false, .int .i64 0, .int .i64 35063, .slice none 0 0]
theorem Try.builtH : Try.prog.built 26 [(8, .int .i64 35063)] = some HC := by kernel_rfl
theorem first_close : (Crc.close Fr.first.text).length = 64 ∧ (Crc.close Fr.first.text).getD 12 0 = 136 ∧ (Crc.close Fr.first.text).getD 13 0 = 247 := by decide +kernel
theorem first_chk : Fr.first.chk = 0 := by decide +kernel
theorem bytes_zero : Crc.Bytes Fr.first.heads := by
  intro x hx
  simp [Fr.first, Fr.zero, Fr.heads] at hx
  omega
theorem bnil (w : World) : BArg w (.slice none 0 0) [] := ⟨fun x hx => by simp at hx, .inl ⟨rfl, none, 0, rfl, fun _ => rfl⟩⟩
theorem enc_head (w : World) : Calls Try.prog 11 #[.agg HC] w fun e w' => ∃ g c, e = .returned (.tuple #[.slice (some ⟨g, 0, none⟩) 64 c, .int .i64 0]) ∧ 64 ≤ c ∧ w'.cell? ⟨g, 12, none⟩ = some (.int .u8 136) ∧ w'.cell? ⟨g, 13, none⟩ = some (.int .u8 247) ∧ Below w.heap.size w w' := by
  have h := encode_any Fr.first (.slice none 0 0) w ⟨bytes_zero, fun x hx => by simp [Fr.first, Fr.zero] at hx, by decide, by decide, by decide, by decide, by decide, by decide, by decide, by decide⟩ (by decide) (bnil w)
  refine Calls.mono (R := EncPost w Fr.first) h fun e w' hh => ?_
  obtain ⟨h64, h12, h13⟩ := first_close
  rcases hh with ⟨_, v, rfl, hown⟩ | ⟨h1, _⟩
  · obtain ⟨g, c, rfl, hc, _⟩ := hown.form
    have c12 := hown.cell (k := 12) (by rw [h64]; decide)
    have c13 := hown.cell (k := 13) (by rw [h64]; decide)
    rw [h12] at c12
    rw [h13] at c13
    rw [h64] at hc ⊢
    exact ⟨g, c, rfl, hc, c12, c13, hown.bel⟩
  · exact absurd first_chk h1

theorem wpList_buildH {ops : Array Oper} {rest : List Oper} {o : Oper} {a : Act} {w : World} {Q : Exit → Act → World → Prop} (hg : o.guard = none) (ho : o.op = .build 26 #[(8, .const (.int .i64 35063))])
    (h : wpList Try.prog ops Q rest (a.put o.dst (.agg HC)) w) : wpList Try.prog ops Q (o :: rest) a w := by
  refine wpList_build hg 26 #[(8, .const (.int .i64 35063))] ho ?_ ?_
  · simp only [List.map_toArray, List.map_cons, List.map_nil]
    show (Try.prog.built 26 [(8, .int .i64 35063)]).isSome = true
    rw [Try.builtH]; rfl
  · simp only [List.map_toArray, List.map_cons, List.map_nil]
    show wpList Try.prog ops Q rest (a.put o.dst (.agg ((Try.prog.built 26 [(8, .int .i64 35063)]).getD #[]))) w
    rw [Try.builtH]; exact h
theorem at_buildH {ops : Array Oper} {rest : List Oper} {d : Option Tmp} {t : TypeId} {s : String} {af : Array Edge} {a : Act} {w : World} {x : Array (Nat × Operand)} {Q : Exit → Act → World → Prop}
    (h : wpList Try.prog ops Q (⟨d, .build 26 x, t, s, af, none⟩ :: rest) a w) : wpList Try.prog ops Q (⟨d, .build 26 x, t, s, af, none⟩ :: rest) a w := h

theorem head_ret : Ret 9 #[] (.bool true) := fun w => by
  have HE := Lib.hid (enc_head w)
  go_enter Try.func9, Try.ntmps9
  go_wp2_with (first
    | (with_reducible refine at_buildH ?_; refine wpList_buildH rfl rfl ?_)
    | (go_at_call 11; (with_reducible refine HE.out.mono ?_); rintro e w1 ⟨g, c, rfl, hc, c12, c13, hb⟩))
  go_ret
  exact ⟨rfl, hb⟩

end Go.Proofs.Ytbpkjljienadiaa
