/-
  No cell of these rows narrows 'for every input' (looked for: loops, veiled, ifaces, maps, wideKeys, modest, calm, conditions, laid).
  DERIVED. THE GIVEN ROWS OF THIS SEAT. 7 by the template 'for every input the law returns true; each argument reads behind the call as it read before'; 0 by the template 'total and deterministic' (their statements: YtglmkjnhkjljpaaTotals.lean).
  GIVEN WITH THE SEED: the statements are not yours to turn. If you find one false, say at which input.
  Laid BY PROGRAM, IN A SANDBOX (cutbox-rows.mjs): the forced cells as the released guide's own fill.sh prints them over the translation f48c6dba8322f8fb… (all of the seat's roots in one cut). By AI agents, Wed Nov 11 2026. No macro, syntax, notation, axiom, sorry.
-/
import Derived.Test.YtglmkjnhkjljpaaChecked
import GoSem.Claim
import GoSem.ClaimJoined
import GoSem.ClaimMapViews
import Derived.JoinedTies
import Derived.KernelRfl
namespace Go.Proofs.Ytglmkjnhkjljpaa
/- THE CELL 'sum', in the pinned program and in every row, IS THE sha256 OF THE DUMP (.gsa) THAT YtglmkjnhkjljpaaProg.lean LOADS. Nothing in Lean hashes anything: it is a label: what it is worth is what the hold of that sum in a sandbox is worth. -/
noncomputable def Try.pinned : Pinned := { name := "ytglmkjnhkjljpaa", sum := "f48c6dba8322f8fb6c58e33bd111a0c94152344f8083ef21e5e5be61f2d7edbf", checked := Try.checked }
namespace Rows
def none {H : Type} : Left H := { results := [], args := [] }

/-- 'sandglasslaw03.StampSums': WHATEVER THE INPUT: true; the input reads as it did. -/
def stampSumsSpec : ChangeSpec := { name := "stampSums", fn := fun _ => fun
  | [d1, d2] => { results := [.lit (.bool true)], args := [d1, d2] }
  | _ => none }
def stampSumsRow : OpenClaim := { program := "ytglmkjnhkjljpaa", sum := "f48c6dba8322f8fb6c58e33bd111a0c94152344f8083ef21e5e5be61f2d7edbf", func := "sandglass/sandglasslaw03.StampSums", spec := "stampSums", apart := false }
def StampSumsSaid : Prop := stampSumsRow.holds Try.pinned (OpenSpec.ofChange stampSumsSpec)

/-- ITS FALSE NEIGHBOUR: 'it returns false'. Refute it at one input. -/
def stampSumsWrong : ChangeSpec := { name := "stampSums", fn := fun _ => fun
  | [d1, d2] => { results := [.lit (.bool false)], args := [d1, d2] }
  | _ => none }
def StampSumsWrongFalsely : Prop := stampSumsRow.holds Try.pinned (OpenSpec.ofChange stampSumsWrong)

/-- 'sandglasslaw03.StampGrains': WHATEVER THE INPUT: true; the input reads as it did. -/
def stampGrainsSpec : ChangeSpec := { name := "stampGrains", fn := fun _ => fun
  | [d1, d2] => { results := [.lit (.bool true)], args := [d1, d2] }
  | _ => none }
def stampGrainsRow : OpenClaim := { program := "ytglmkjnhkjljpaa", sum := "f48c6dba8322f8fb6c58e33bd111a0c94152344f8083ef21e5e5be61f2d7edbf", func := "sandglass/sandglasslaw03.StampGrains", spec := "stampGrains", apart := false }
def StampGrainsSaid : Prop := stampGrainsRow.holds Try.pinned (OpenSpec.ofChange stampGrainsSpec)

/-- ITS FALSE NEIGHBOUR: 'it returns false'. Refute it at one input. -/
def stampGrainsWrong : ChangeSpec := { name := "stampGrains", fn := fun _ => fun
  | [d1, d2] => { results := [.lit (.bool false)], args := [d1, d2] }
  | _ => none }
def StampGrainsWrongFalsely : Prop := stampGrainsRow.holds Try.pinned (OpenSpec.ofChange stampGrainsWrong)

/-- 'sandglasslaw03.StampRates': WHATEVER THE INPUT: true; the input reads as it did. -/
def stampRatesSpec : ChangeSpec := { name := "stampRates", fn := fun _ => fun
  | [d1, d2] => { results := [.lit (.bool true)], args := [d1, d2] }
  | _ => none }
def stampRatesRow : OpenClaim := { program := "ytglmkjnhkjljpaa", sum := "f48c6dba8322f8fb6c58e33bd111a0c94152344f8083ef21e5e5be61f2d7edbf", func := "sandglass/sandglasslaw03.StampRates", spec := "stampRates", inPlace := ["math/bits.Add64"], named := ["math/bits.divideError", "math/bits.overflowError"], apart := false }
def StampRatesSaid : Prop := stampRatesRow.holds Try.pinned (OpenSpec.ofChange stampRatesSpec)

/-- ITS FALSE NEIGHBOUR: 'it returns false'. Refute it at one input. -/
def stampRatesWrong : ChangeSpec := { name := "stampRates", fn := fun _ => fun
  | [d1, d2] => { results := [.lit (.bool false)], args := [d1, d2] }
  | _ => none }
def StampRatesWrongFalsely : Prop := stampRatesRow.holds Try.pinned (OpenSpec.ofChange stampRatesWrong)

/-- 'sandglasslaw03.StampMiddles': WHATEVER THE INPUT: true; the input reads as it did. -/
def stampMiddlesSpec : ChangeSpec := { name := "stampMiddles", fn := fun _ => fun
  | [d1, d2, d3] => { results := [.lit (.bool true)], args := [d1, d2, d3] }
  | _ => none }
def stampMiddlesRow : OpenClaim := { program := "ytglmkjnhkjljpaa", sum := "f48c6dba8322f8fb6c58e33bd111a0c94152344f8083ef21e5e5be61f2d7edbf", func := "sandglass/sandglasslaw03.StampMiddles", spec := "stampMiddles", recurses := true, apart := false }
def StampMiddlesSaid : Prop := stampMiddlesRow.holds Try.pinned (OpenSpec.ofChange stampMiddlesSpec)

/-- ITS FALSE NEIGHBOUR: 'it returns false'. Refute it at one input. -/
def stampMiddlesWrong : ChangeSpec := { name := "stampMiddles", fn := fun _ => fun
  | [d1, d2, d3] => { results := [.lit (.bool false)], args := [d1, d2, d3] }
  | _ => none }
def StampMiddlesWrongFalsely : Prop := stampMiddlesRow.holds Try.pinned (OpenSpec.ofChange stampMiddlesWrong)

/-- 'sandglasslaw03.StampNear': WHATEVER THE INPUT: true; the input reads as it did. -/
def stampNearSpec : ChangeSpec := { name := "stampNear", fn := fun _ => fun
  | [d1, d2] => { results := [.lit (.bool true)], args := [d1, d2] }
  | _ => none }
def stampNearRow : OpenClaim := { program := "ytglmkjnhkjljpaa", sum := "f48c6dba8322f8fb6c58e33bd111a0c94152344f8083ef21e5e5be61f2d7edbf", func := "sandglass/sandglasslaw03.StampNear", spec := "stampNear", apart := false }
def StampNearSaid : Prop := stampNearRow.holds Try.pinned (OpenSpec.ofChange stampNearSpec)

/-- ITS FALSE NEIGHBOUR: 'it returns false'. Refute it at one input. -/
def stampNearWrong : ChangeSpec := { name := "stampNear", fn := fun _ => fun
  | [d1, d2] => { results := [.lit (.bool false)], args := [d1, d2] }
  | _ => none }
def StampNearWrongFalsely : Prop := stampNearRow.holds Try.pinned (OpenSpec.ofChange stampNearWrong)

/-- 'sandglasslaw03.StampBack': WHATEVER THE INPUT: true; the input reads as it did. -/
def stampBackSpec : ChangeSpec := { name := "stampBack", fn := fun _ => fun
  | [d1, d2] => { results := [.lit (.bool true)], args := [d1, d2] }
  | _ => none }
def stampBackRow : OpenClaim := { program := "ytglmkjnhkjljpaa", sum := "f48c6dba8322f8fb6c58e33bd111a0c94152344f8083ef21e5e5be61f2d7edbf", func := "sandglass/sandglasslaw03.StampBack", spec := "stampBack", apart := false }
def StampBackSaid : Prop := stampBackRow.holds Try.pinned (OpenSpec.ofChange stampBackSpec)

/-- ITS FALSE NEIGHBOUR: 'it returns false'. Refute it at one input. -/
def stampBackWrong : ChangeSpec := { name := "stampBack", fn := fun _ => fun
  | [d1, d2] => { results := [.lit (.bool false)], args := [d1, d2] }
  | _ => none }
def StampBackWrongFalsely : Prop := stampBackRow.holds Try.pinned (OpenSpec.ofChange stampBackWrong)

/-- 'sandglasslaw03.StampEven': WHATEVER THE INPUT: true; the input reads as it did. -/
def stampEvenSpec : ChangeSpec := { name := "stampEven", fn := fun _ => fun
  | [d1, d2, d3] => { results := [.lit (.bool true)], args := [d1, d2, d3] }
  | _ => none }
def stampEvenRow : OpenClaim := { program := "ytglmkjnhkjljpaa", sum := "f48c6dba8322f8fb6c58e33bd111a0c94152344f8083ef21e5e5be61f2d7edbf", func := "sandglass/sandglasslaw03.StampEven", spec := "stampEven", inPlace := ["math/bits.Add64"], recurses := true, named := ["math/bits.divideError", "math/bits.overflowError"], apart := false }
def StampEvenSaid : Prop := stampEvenRow.holds Try.pinned (OpenSpec.ofChange stampEvenSpec)

/-- ITS FALSE NEIGHBOUR: 'it returns false'. Refute it at one input. -/
def stampEvenWrong : ChangeSpec := { name := "stampEven", fn := fun _ => fun
  | [d1, d2, d3] => { results := [.lit (.bool false)], args := [d1, d2, d3] }
  | _ => none }
def StampEvenWrongFalsely : Prop := stampEvenRow.holds Try.pinned (OpenSpec.ofChange stampEvenWrong)

/- THE SECOND FORM. 'bulk': how many values and letters a reading holds, each counted each time it is reached (what is shared counts as often as it is met; a slice's spare places count too). A statement '..UptoSaid' is the law's where the arguments, and the package variables that the reading takes, are together of bulk at most 1048576: NARROWER than '..Said'. Prove '..Said' where nothing that the law and all that it calls make is longer than what came in: it says more and counts as full. Else prove '..UptoSaid'. A law counts once. -/
mutual
def uptoBulk {H : Type} : DataW H → Nat
  | .lit (.string bytes) => bytes.length + 1
  | .lit _ => 1
  | .nil => 1
  | .ptr d => uptoBulk d + 1
  | .slice elems spare => uptoBulkAll elems + uptoBulkAll spare + 1
  | .agg parts => uptoBulkAll parts + 1
  | .iface _ d => uptoBulk d + 1
  | .map entries => uptoBulkEntries entries + 1
  | .held _ => 1
def uptoBulkAll {H : Type} : List (DataW H) → Nat
  | [] => 0
  | d :: r => uptoBulk d + uptoBulkAll r
def uptoBulkEntries {H : Type} : List (Lit × DataW H) → Nat
  | [] => 0
  | x :: r => uptoBulkEntry x + uptoBulkEntries r
def uptoBulkEntry {H : Type} : Lit × DataW H → Nat
  | (.string bytes, d) => bytes.length + uptoBulk d + 1
  | (_, d) => uptoBulk d + 1
 end
def uptoSmall : (H : Type) → List (DataW H) → Bool := fun _ ds => decide (uptoBulkAll ds ≤ 1048576)
def OpenSpec.upto (s : _root_.Go.ChangeSpec) : _root_.Go.OpenSpec := { _root_.Go.OpenSpec.ofChange s with cond := some uptoSmall }

/-- 'sandglasslaw03.StampSums', WHERE WHAT IT READS IS OF BULK AT MOST 1048576: true; the input reads as it did. -/
def stampSumsUptoRow : OpenClaim := { program := "ytglmkjnhkjljpaa", sum := "f48c6dba8322f8fb6c58e33bd111a0c94152344f8083ef21e5e5be61f2d7edbf", func := "sandglass/sandglasslaw03.StampSums", spec := "stampSums", apart := false, narrowed := true }
def StampSumsUptoSaid : Prop := stampSumsUptoRow.holds Try.pinned (OpenSpec.upto stampSumsSpec)

/-- 'sandglasslaw03.StampGrains', WHERE WHAT IT READS IS OF BULK AT MOST 1048576: true; the input reads as it did. -/
def stampGrainsUptoRow : OpenClaim := { program := "ytglmkjnhkjljpaa", sum := "f48c6dba8322f8fb6c58e33bd111a0c94152344f8083ef21e5e5be61f2d7edbf", func := "sandglass/sandglasslaw03.StampGrains", spec := "stampGrains", apart := false, narrowed := true }
def StampGrainsUptoSaid : Prop := stampGrainsUptoRow.holds Try.pinned (OpenSpec.upto stampGrainsSpec)

/-- 'sandglasslaw03.StampRates', WHERE WHAT IT READS IS OF BULK AT MOST 1048576: true; the input reads as it did. -/
def stampRatesUptoRow : OpenClaim := { program := "ytglmkjnhkjljpaa", sum := "f48c6dba8322f8fb6c58e33bd111a0c94152344f8083ef21e5e5be61f2d7edbf", func := "sandglass/sandglasslaw03.StampRates", spec := "stampRates", inPlace := ["math/bits.Add64"], named := ["math/bits.divideError", "math/bits.overflowError"], apart := false, narrowed := true }
def StampRatesUptoSaid : Prop := stampRatesUptoRow.holds Try.pinned (OpenSpec.upto stampRatesSpec)

/-- 'sandglasslaw03.StampMiddles', WHERE WHAT IT READS IS OF BULK AT MOST 1048576: true; the input reads as it did. -/
def stampMiddlesUptoRow : OpenClaim := { program := "ytglmkjnhkjljpaa", sum := "f48c6dba8322f8fb6c58e33bd111a0c94152344f8083ef21e5e5be61f2d7edbf", func := "sandglass/sandglasslaw03.StampMiddles", spec := "stampMiddles", recurses := true, apart := false, narrowed := true }
def StampMiddlesUptoSaid : Prop := stampMiddlesUptoRow.holds Try.pinned (OpenSpec.upto stampMiddlesSpec)

/-- 'sandglasslaw03.StampNear', WHERE WHAT IT READS IS OF BULK AT MOST 1048576: true; the input reads as it did. -/
def stampNearUptoRow : OpenClaim := { program := "ytglmkjnhkjljpaa", sum := "f48c6dba8322f8fb6c58e33bd111a0c94152344f8083ef21e5e5be61f2d7edbf", func := "sandglass/sandglasslaw03.StampNear", spec := "stampNear", apart := false, narrowed := true }
def StampNearUptoSaid : Prop := stampNearUptoRow.holds Try.pinned (OpenSpec.upto stampNearSpec)

/-- 'sandglasslaw03.StampBack', WHERE WHAT IT READS IS OF BULK AT MOST 1048576: true; the input reads as it did. -/
def stampBackUptoRow : OpenClaim := { program := "ytglmkjnhkjljpaa", sum := "f48c6dba8322f8fb6c58e33bd111a0c94152344f8083ef21e5e5be61f2d7edbf", func := "sandglass/sandglasslaw03.StampBack", spec := "stampBack", apart := false, narrowed := true }
def StampBackUptoSaid : Prop := stampBackUptoRow.holds Try.pinned (OpenSpec.upto stampBackSpec)

/-- 'sandglasslaw03.StampEven', WHERE WHAT IT READS IS OF BULK AT MOST 1048576: true; the input reads as it did. -/
def stampEvenUptoRow : OpenClaim := { program := "ytglmkjnhkjljpaa", sum := "f48c6dba8322f8fb6c58e33bd111a0c94152344f8083ef21e5e5be61f2d7edbf", func := "sandglass/sandglasslaw03.StampEven", spec := "stampEven", inPlace := ["math/bits.Add64"], recurses := true, named := ["math/bits.divideError", "math/bits.overflowError"], apart := false, narrowed := true }
def StampEvenUptoSaid : Prop := stampEvenUptoRow.holds Try.pinned (OpenSpec.upto stampEvenSpec)

end Rows
end Go.Proofs.Ytglmkjnhkjljpaa
