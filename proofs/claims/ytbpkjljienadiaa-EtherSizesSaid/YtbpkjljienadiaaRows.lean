/-
  No cell of these rows narrows 'for every input' (looked for: loops, veiled, ifaces, maps, wideKeys, modest, calm, conditions, laid).
  DERIVED. THE GIVEN ROWS OF THIS SEAT. 6 by the template 'for every input the law returns true; each argument reads behind the call as it read before'; 0 by the template 'total and deterministic' (their statements: YtbpkjljienadiaaTotals.lean).
  GIVEN WITH THE SEED: the statements are not yours to turn. If you find one false, say at which input.
  Laid BY PROGRAM, IN A SANDBOX (cutbox-rows.mjs): the forced cells as the released guide's own fill.sh prints them over the translation 1b6d78546ea198a3… (all of the seat's roots in one cut). By AI agents, Wed Nov 11 2026. No macro, syntax, notation, axiom, sorry.
-/
import Derived.Test.YtbpkjljienadiaaChecked
import GoSem.Claim
import GoSem.ClaimJoined
import GoSem.ClaimMapViews
import Derived.JoinedTies
import Derived.KernelRfl
namespace Go.Proofs.Ytbpkjljienadiaa
/- THE CELL 'sum', in the pinned program and in every row, IS THE sha256 OF THE DUMP (.gsa) THAT YtbpkjljienadiaaProg.lean LOADS. Nothing in Lean hashes anything: it is a label: what it is worth is what the hold of that sum in a sandbox is worth. -/
noncomputable def Try.pinned : Pinned := { name := "ytbpkjljienadiaa", sum := "1b6d78546ea198a3da8a67910e8200cb50fb15ec3062842f86e4e98003d1ee96", checked := Try.checked }
namespace Rows
def none {H : Type} : Left H := { results := [], args := [] }

/-- 'sandglasslaw05.EtherWrites': WHATEVER THE INPUT: true; the input reads as it did. -/
def etherWritesSpec : ChangeSpec := { name := "etherWrites", fn := fun _ => fun
  | [d1, d2] => { results := [.lit (.bool true)], args := [d1, d2] }
  | _ => none }
def etherWritesRow : OpenClaim := { program := "ytbpkjljienadiaa", sum := "1b6d78546ea198a3da8a67910e8200cb50fb15ec3062842f86e4e98003d1ee96", func := "sandglass/sandglasslaw05.EtherWrites", spec := "etherWrites", unfollowed := true, recurses := true, apart := false }
def EtherWritesSaid : Prop := etherWritesRow.holds Try.pinned (OpenSpec.ofChange etherWritesSpec)

/-- ITS FALSE NEIGHBOUR: 'it returns false'. Refute it at one input. -/
def etherWritesWrong : ChangeSpec := { name := "etherWrites", fn := fun _ => fun
  | [d1, d2] => { results := [.lit (.bool false)], args := [d1, d2] }
  | _ => none }
def EtherWritesWrongFalsely : Prop := etherWritesRow.holds Try.pinned (OpenSpec.ofChange etherWritesWrong)

/-- 'sandglasslaw05.EtherReads': WHATEVER THE INPUT: true; the input reads as it did. -/
def etherReadsSpec : ChangeSpec := { name := "etherReads", fn := fun _ => fun
  | [d] => { results := [.lit (.bool true)], args := [d] }
  | _ => none }
def etherReadsRow : OpenClaim := { program := "ytbpkjljienadiaa", sum := "1b6d78546ea198a3da8a67910e8200cb50fb15ec3062842f86e4e98003d1ee96", func := "sandglass/sandglasslaw05.EtherReads", spec := "etherReads", unfollowed := true, recurses := true, apart := false }
def EtherReadsSaid : Prop := etherReadsRow.holds Try.pinned (OpenSpec.ofChange etherReadsSpec)

/-- ITS FALSE NEIGHBOUR: 'it returns false'. Refute it at one input. -/
def etherReadsWrong : ChangeSpec := { name := "etherReads", fn := fun _ => fun
  | [d] => { results := [.lit (.bool false)], args := [d] }
  | _ => none }
def EtherReadsWrongFalsely : Prop := etherReadsRow.holds Try.pinned (OpenSpec.ofChange etherReadsWrong)

/-- 'sandglasslaw05.EtherForm': WHATEVER THE INPUT: true; the input reads as it did. -/
def etherFormSpec : ChangeSpec := { name := "etherForm", fn := fun _ => fun
  | [d] => { results := [.lit (.bool true)], args := [d] }
  | _ => none }
def etherFormRow : OpenClaim := { program := "ytbpkjljienadiaa", sum := "1b6d78546ea198a3da8a67910e8200cb50fb15ec3062842f86e4e98003d1ee96", func := "sandglass/sandglasslaw05.EtherForm", spec := "etherForm", unfollowed := true, recurses := true, apart := false }
def EtherFormSaid : Prop := etherFormRow.holds Try.pinned (OpenSpec.ofChange etherFormSpec)

/-- ITS FALSE NEIGHBOUR: 'it returns false'. Refute it at one input. -/
def etherFormWrong : ChangeSpec := { name := "etherForm", fn := fun _ => fun
  | [d] => { results := [.lit (.bool false)], args := [d] }
  | _ => none }
def EtherFormWrongFalsely : Prop := etherFormRow.holds Try.pinned (OpenSpec.ofChange etherFormWrong)

/-- 'sandglasslaw05.EtherNames': WHATEVER THE INPUT: true; the input reads as it did. -/
def etherNamesSpec : ChangeSpec := { name := "etherNames", fn := fun _ => fun
  | [d1, d2] => { results := [.lit (.bool true)], args := [d1, d2] }
  | _ => none }
def etherNamesRow : OpenClaim := { program := "ytbpkjljienadiaa", sum := "1b6d78546ea198a3da8a67910e8200cb50fb15ec3062842f86e4e98003d1ee96", func := "sandglass/sandglasslaw05.EtherNames", spec := "etherNames", apart := false }
def EtherNamesSaid : Prop := etherNamesRow.holds Try.pinned (OpenSpec.ofChange etherNamesSpec)

/-- ITS FALSE NEIGHBOUR: 'it returns false'. Refute it at one input. -/
def etherNamesWrong : ChangeSpec := { name := "etherNames", fn := fun _ => fun
  | [d1, d2] => { results := [.lit (.bool false)], args := [d1, d2] }
  | _ => none }
def EtherNamesWrongFalsely : Prop := etherNamesRow.holds Try.pinned (OpenSpec.ofChange etherNamesWrong)

/-- 'sandglasslaw05.EtherTurned': WHATEVER THE INPUT: true; the input reads as it did. -/
def etherTurnedSpec : ChangeSpec := { name := "etherTurned", fn := fun _ => fun
  | [d1, d2] => { results := [.lit (.bool true)], args := [d1, d2] }
  | _ => none }
def etherTurnedRow : OpenClaim := { program := "ytbpkjljienadiaa", sum := "1b6d78546ea198a3da8a67910e8200cb50fb15ec3062842f86e4e98003d1ee96", func := "sandglass/sandglasslaw05.EtherTurned", spec := "etherTurned", unfollowed := true, recurses := true, apart := false }
def EtherTurnedSaid : Prop := etherTurnedRow.holds Try.pinned (OpenSpec.ofChange etherTurnedSpec)

/-- ITS FALSE NEIGHBOUR: 'it returns false'. Refute it at one input. -/
def etherTurnedWrong : ChangeSpec := { name := "etherTurned", fn := fun _ => fun
  | [d1, d2] => { results := [.lit (.bool false)], args := [d1, d2] }
  | _ => none }
def EtherTurnedWrongFalsely : Prop := etherTurnedRow.holds Try.pinned (OpenSpec.ofChange etherTurnedWrong)

/-- 'sandglasslaw05.EtherSizes': WHATEVER THE INPUT: true; the input reads as it did. -/
def etherSizesSpec : ChangeSpec := { name := "etherSizes", fn := fun _ => fun
  | [d1, d2] => { results := [.lit (.bool true)], args := [d1, d2] }
  | _ => none }
def etherSizesRow : OpenClaim := { program := "ytbpkjljienadiaa", sum := "1b6d78546ea198a3da8a67910e8200cb50fb15ec3062842f86e4e98003d1ee96", func := "sandglass/sandglasslaw05.EtherSizes", spec := "etherSizes", apart := false }
def EtherSizesSaid : Prop := etherSizesRow.holds Try.pinned (OpenSpec.ofChange etherSizesSpec)

/-- ITS FALSE NEIGHBOUR: 'it returns false'. Refute it at one input. -/
def etherSizesWrong : ChangeSpec := { name := "etherSizes", fn := fun _ => fun
  | [d1, d2] => { results := [.lit (.bool false)], args := [d1, d2] }
  | _ => none }
def EtherSizesWrongFalsely : Prop := etherSizesRow.holds Try.pinned (OpenSpec.ofChange etherSizesWrong)

/- THE SECOND FORM. 'bulk': how many values and letters a reading holds, each counted each time it is reached (what is shared counts as often as it is met; a slice's spare places count too). A statement '..UptoSaid' is the law's where the arguments, and the package variables that the reading takes, are together of bulk at most 1048576: NARROWER than '..Said'. Prove '..Said' where nothing that the law and all that it calls make is longer than what came in: it says more and counts as full. Else prove '..UptoSaid'. A law counts once. -/
mutual
def uptoBulk {H : Type} : DataW H → Nat
  | .lit (.string bytes) => bytes.length + 1
  | .lit _ => 1
  | .nil => 1
  | .ptr d => uptoBulk d + 1
  | .slice elems spare => uptoBulkAll elems + uptoBulkAll spare + 1
  | .agg parts => uptoBulkAll parts + 1
  | .iface _ d => uptoBulk d + 1
  | .map entries => uptoBulkEntries entries + 1
  | .held _ => 1
def uptoBulkAll {H : Type} : List (DataW H) → Nat
  | [] => 0
  | d :: r => uptoBulk d + uptoBulkAll r
def uptoBulkEntries {H : Type} : List (Lit × DataW H) → Nat
  | [] => 0
  | x :: r => uptoBulkEntry x + uptoBulkEntries r
def uptoBulkEntry {H : Type} : Lit × DataW H → Nat
  | (.string bytes, d) => bytes.length + uptoBulk d + 1
  | (_, d) => uptoBulk d + 1
 end
def uptoSmall : (H : Type) → List (DataW H) → Bool := fun _ ds => decide (uptoBulkAll ds ≤ 1048576)
def OpenSpec.upto (s : _root_.Go.ChangeSpec) : _root_.Go.OpenSpec := { _root_.Go.OpenSpec.ofChange s with cond := some uptoSmall }

/-- 'sandglasslaw05.EtherWrites', WHERE WHAT IT READS IS OF BULK AT MOST 1048576: true; the input reads as it did. -/
def etherWritesUptoRow : OpenClaim := { program := "ytbpkjljienadiaa", sum := "1b6d78546ea198a3da8a67910e8200cb50fb15ec3062842f86e4e98003d1ee96", func := "sandglass/sandglasslaw05.EtherWrites", spec := "etherWrites", unfollowed := true, recurses := true, apart := false, narrowed := true }
def EtherWritesUptoSaid : Prop := etherWritesUptoRow.holds Try.pinned (OpenSpec.upto etherWritesSpec)

/-- 'sandglasslaw05.EtherReads', WHERE WHAT IT READS IS OF BULK AT MOST 1048576: true; the input reads as it did. -/
def etherReadsUptoRow : OpenClaim := { program := "ytbpkjljienadiaa", sum := "1b6d78546ea198a3da8a67910e8200cb50fb15ec3062842f86e4e98003d1ee96", func := "sandglass/sandglasslaw05.EtherReads", spec := "etherReads", unfollowed := true, recurses := true, apart := false, narrowed := true }
def EtherReadsUptoSaid : Prop := etherReadsUptoRow.holds Try.pinned (OpenSpec.upto etherReadsSpec)

/-- 'sandglasslaw05.EtherForm', WHERE WHAT IT READS IS OF BULK AT MOST 1048576: true; the input reads as it did. -/
def etherFormUptoRow : OpenClaim := { program := "ytbpkjljienadiaa", sum := "1b6d78546ea198a3da8a67910e8200cb50fb15ec3062842f86e4e98003d1ee96", func := "sandglass/sandglasslaw05.EtherForm", spec := "etherForm", unfollowed := true, recurses := true, apart := false, narrowed := true }
def EtherFormUptoSaid : Prop := etherFormUptoRow.holds Try.pinned (OpenSpec.upto etherFormSpec)

/-- 'sandglasslaw05.EtherNames', WHERE WHAT IT READS IS OF BULK AT MOST 1048576: true; the input reads as it did. -/
def etherNamesUptoRow : OpenClaim := { program := "ytbpkjljienadiaa", sum := "1b6d78546ea198a3da8a67910e8200cb50fb15ec3062842f86e4e98003d1ee96", func := "sandglass/sandglasslaw05.EtherNames", spec := "etherNames", apart := false, narrowed := true }
def EtherNamesUptoSaid : Prop := etherNamesUptoRow.holds Try.pinned (OpenSpec.upto etherNamesSpec)

/-- 'sandglasslaw05.EtherTurned', WHERE WHAT IT READS IS OF BULK AT MOST 1048576: true; the input reads as it did. -/
def etherTurnedUptoRow : OpenClaim := { program := "ytbpkjljienadiaa", sum := "1b6d78546ea198a3da8a67910e8200cb50fb15ec3062842f86e4e98003d1ee96", func := "sandglass/sandglasslaw05.EtherTurned", spec := "etherTurned", unfollowed := true, recurses := true, apart := false, narrowed := true }
def EtherTurnedUptoSaid : Prop := etherTurnedUptoRow.holds Try.pinned (OpenSpec.upto etherTurnedSpec)

/-- 'sandglasslaw05.EtherSizes', WHERE WHAT IT READS IS OF BULK AT MOST 1048576: true; the input reads as it did. -/
def etherSizesUptoRow : OpenClaim := { program := "ytbpkjljienadiaa", sum := "1b6d78546ea198a3da8a67910e8200cb50fb15ec3062842f86e4e98003d1ee96", func := "sandglass/sandglasslaw05.EtherSizes", spec := "etherSizes", apart := false, narrowed := true }
def EtherSizesUptoSaid : Prop := etherSizesUptoRow.holds Try.pinned (OpenSpec.upto etherSizesSpec)

end Rows
end Go.Proofs.Ytbpkjljienadiaa
