/-
  No cell of these rows narrows 'for every input' (looked for: loops, veiled, ifaces, maps, wideKeys, modest, calm, conditions, laid).
  DERIVED. THE GIVEN ROWS OF THIS SEAT. 4 by the template 'for every input the law returns true; each argument reads behind the call as it read before'; 0 by the template 'total and deterministic' (their statements: YtpgcadceljalpaaTotals.lean).
  GIVEN WITH THE SEED: the statements are not yours to turn. If you find one false, say at which input.
  Laid BY PROGRAM, IN A SANDBOX (cutbox-rows.mjs): the forced cells as the released guide's own fill.sh prints them over the translation 7ec889d8f7106715… (all of the seat's roots in one cut). By AI agents, Wed Nov 11 2026. No macro, syntax, notation, axiom, sorry.
-/
import Derived.Test.YtpgcadceljalpaaChecked
import GoSem.Claim
import GoSem.ClaimJoined
import GoSem.ClaimMapViews
import Derived.JoinedTies
import Derived.KernelRfl
namespace Go.Proofs.Ytpgcadceljalpaa
/- THE CELL 'sum', in the pinned program and in every row, IS THE sha256 OF THE DUMP (.gsa) THAT YtpgcadceljalpaaProg.lean LOADS. Nothing in Lean hashes anything: it is a label: what it is worth is what the hold of that sum in a sandbox is worth. -/
noncomputable def Try.pinned : Pinned := { name := "ytpgcadceljalpaa", sum := "7ec889d8f7106715f3ebed83887068a583cafb32a16934db0a725ada751bf83c", checked := Try.checked }
namespace Rows
def none {H : Type} : Left H := { results := [], args := [] }

/-- 'sandglasslaw15.LanesRuns': WHATEVER THE INPUT: true; the input reads as it did. -/
def lanesRunsSpec : ChangeSpec := { name := "lanesRuns", fn := fun _ => fun
  | [d1, d2] => { results := [.lit (.bool true)], args := [d1, d2] }
  | _ => none }
def lanesRunsRow : OpenClaim := { program := "ytpgcadceljalpaa", sum := "7ec889d8f7106715f3ebed83887068a583cafb32a16934db0a725ada751bf83c", func := "sandglass/sandglasslaw15.LanesRuns", spec := "lanesRuns", apart := false }
def LanesRunsSaid : Prop := lanesRunsRow.holds Try.pinned (OpenSpec.ofChange lanesRunsSpec)

/-- ITS FALSE NEIGHBOUR: 'it returns false'. Refute it at one input. -/
def lanesRunsWrong : ChangeSpec := { name := "lanesRuns", fn := fun _ => fun
  | [d1, d2] => { results := [.lit (.bool false)], args := [d1, d2] }
  | _ => none }
def LanesRunsWrongFalsely : Prop := lanesRunsRow.holds Try.pinned (OpenSpec.ofChange lanesRunsWrong)

/-- 'sandglasslaw15.LanesStrict': WHATEVER THE INPUT: true; the input reads as it did. -/
def lanesStrictSpec : ChangeSpec := { name := "lanesStrict", fn := fun _ => fun
  | [d] => { results := [.lit (.bool true)], args := [d] }
  | _ => none }
def lanesStrictRow : OpenClaim := { program := "ytpgcadceljalpaa", sum := "7ec889d8f7106715f3ebed83887068a583cafb32a16934db0a725ada751bf83c", func := "sandglass/sandglasslaw15.LanesStrict", spec := "lanesStrict", apart := false }
def LanesStrictSaid : Prop := lanesStrictRow.holds Try.pinned (OpenSpec.ofChange lanesStrictSpec)

/-- ITS FALSE NEIGHBOUR: 'it returns false'. Refute it at one input. -/
def lanesStrictWrong : ChangeSpec := { name := "lanesStrict", fn := fun _ => fun
  | [d] => { results := [.lit (.bool false)], args := [d] }
  | _ => none }
def LanesStrictWrongFalsely : Prop := lanesStrictRow.holds Try.pinned (OpenSpec.ofChange lanesStrictWrong)

/-- 'sandglasslaw15.LanesApart': WHATEVER THE INPUT: true; the input reads as it did. -/
def lanesApartSpec : ChangeSpec := { name := "lanesApart", fn := fun _ => fun
  | [d1, d2] => { results := [.lit (.bool true)], args := [d1, d2] }
  | _ => none }
def lanesApartRow : OpenClaim := { program := "ytpgcadceljalpaa", sum := "7ec889d8f7106715f3ebed83887068a583cafb32a16934db0a725ada751bf83c", func := "sandglass/sandglasslaw15.LanesApart", spec := "lanesApart", apart := false }
def LanesApartSaid : Prop := lanesApartRow.holds Try.pinned (OpenSpec.ofChange lanesApartSpec)

/-- ITS FALSE NEIGHBOUR: 'it returns false'. Refute it at one input. -/
def lanesApartWrong : ChangeSpec := { name := "lanesApart", fn := fun _ => fun
  | [d1, d2] => { results := [.lit (.bool false)], args := [d1, d2] }
  | _ => none }
def LanesApartWrongFalsely : Prop := lanesApartRow.holds Try.pinned (OpenSpec.ofChange lanesApartWrong)

/-- 'sandglasslaw15.LanesAdds': WHATEVER THE INPUT: true; the input reads as it did. -/
def lanesAddsSpec : ChangeSpec := { name := "lanesAdds", fn := fun _ => fun
  | [d1, d2] => { results := [.lit (.bool true)], args := [d1, d2] }
  | _ => none }
def lanesAddsRow : OpenClaim := { program := "ytpgcadceljalpaa", sum := "7ec889d8f7106715f3ebed83887068a583cafb32a16934db0a725ada751bf83c", func := "sandglass/sandglasslaw15.LanesAdds", spec := "lanesAdds", apart := false }
def LanesAddsSaid : Prop := lanesAddsRow.holds Try.pinned (OpenSpec.ofChange lanesAddsSpec)

/-- ITS FALSE NEIGHBOUR: 'it returns false'. Refute it at one input. -/
def lanesAddsWrong : ChangeSpec := { name := "lanesAdds", fn := fun _ => fun
  | [d1, d2] => { results := [.lit (.bool false)], args := [d1, d2] }
  | _ => none }
def LanesAddsWrongFalsely : Prop := lanesAddsRow.holds Try.pinned (OpenSpec.ofChange lanesAddsWrong)

/- THE SECOND FORM. 'bulk': how many values and letters a reading holds, each counted each time it is reached (what is shared counts as often as it is met; a slice's spare places count too). A statement '..UptoSaid' is the law's where the arguments, and the package variables that the reading takes, are together of bulk at most 1048576: NARROWER than '..Said'. Prove '..Said' where nothing that the law and all that it calls make is longer than what came in: it says more and counts as full. Else prove '..UptoSaid'. A law counts once. -/
mutual
def uptoBulk {H : Type} : DataW H → Nat
  | .lit (.string bytes) => bytes.length + 1
  | .lit _ => 1
  | .nil => 1
  | .ptr d => uptoBulk d + 1
  | .slice elems spare => uptoBulkAll elems + uptoBulkAll spare + 1
  | .agg parts => uptoBulkAll parts + 1
  | .iface _ d => uptoBulk d + 1
  | .map entries => uptoBulkEntries entries + 1
  | .held _ => 1
def uptoBulkAll {H : Type} : List (DataW H) → Nat
  | [] => 0
  | d :: r => uptoBulk d + uptoBulkAll r
def uptoBulkEntries {H : Type} : List (Lit × DataW H) → Nat
  | [] => 0
  | x :: r => uptoBulkEntry x + uptoBulkEntries r
def uptoBulkEntry {H : Type} : Lit × DataW H → Nat
  | (.string bytes, d) => bytes.length + uptoBulk d + 1
  | (_, d) => uptoBulk d + 1
 end
def uptoSmall : (H : Type) → List (DataW H) → Bool := fun _ ds => decide (uptoBulkAll ds ≤ 1048576)
def OpenSpec.upto (s : _root_.Go.ChangeSpec) : _root_.Go.OpenSpec := { _root_.Go.OpenSpec.ofChange s with cond := some uptoSmall }

/-- 'sandglasslaw15.LanesRuns', WHERE WHAT IT READS IS OF BULK AT MOST 1048576: true; the input reads as it did. -/
def lanesRunsUptoRow : OpenClaim := { program := "ytpgcadceljalpaa", sum := "7ec889d8f7106715f3ebed83887068a583cafb32a16934db0a725ada751bf83c", func := "sandglass/sandglasslaw15.LanesRuns", spec := "lanesRuns", apart := false, narrowed := true }
def LanesRunsUptoSaid : Prop := lanesRunsUptoRow.holds Try.pinned (OpenSpec.upto lanesRunsSpec)

/-- 'sandglasslaw15.LanesStrict', WHERE WHAT IT READS IS OF BULK AT MOST 1048576: true; the input reads as it did. -/
def lanesStrictUptoRow : OpenClaim := { program := "ytpgcadceljalpaa", sum := "7ec889d8f7106715f3ebed83887068a583cafb32a16934db0a725ada751bf83c", func := "sandglass/sandglasslaw15.LanesStrict", spec := "lanesStrict", apart := false, narrowed := true }
def LanesStrictUptoSaid : Prop := lanesStrictUptoRow.holds Try.pinned (OpenSpec.upto lanesStrictSpec)

/-- 'sandglasslaw15.LanesApart', WHERE WHAT IT READS IS OF BULK AT MOST 1048576: true; the input reads as it did. -/
def lanesApartUptoRow : OpenClaim := { program := "ytpgcadceljalpaa", sum := "7ec889d8f7106715f3ebed83887068a583cafb32a16934db0a725ada751bf83c", func := "sandglass/sandglasslaw15.LanesApart", spec := "lanesApart", apart := false, narrowed := true }
def LanesApartUptoSaid : Prop := lanesApartUptoRow.holds Try.pinned (OpenSpec.upto lanesApartSpec)

/-- 'sandglasslaw15.LanesAdds', WHERE WHAT IT READS IS OF BULK AT MOST 1048576: true; the input reads as it did. -/
def lanesAddsUptoRow : OpenClaim := { program := "ytpgcadceljalpaa", sum := "7ec889d8f7106715f3ebed83887068a583cafb32a16934db0a725ada751bf83c", func := "sandglass/sandglasslaw15.LanesAdds", spec := "lanesAdds", apart := false, narrowed := true }
def LanesAddsUptoSaid : Prop := lanesAddsUptoRow.holds Try.pinned (OpenSpec.upto lanesAddsSpec)

end Rows
end Go.Proofs.Ytpgcadceljalpaa
