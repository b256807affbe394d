/-
  No cell of these rows narrows 'for every input' (looked for: loops, veiled, ifaces, maps, wideKeys, modest, calm, conditions, laid).
  DERIVED. THE GIVEN ROWS OF THIS SEAT. 11 by the template 'for every input the law returns true; each argument reads behind the call as it read before'; 0 by the template 'total and deterministic' (their statements: YtahnlnflcgehaaaTotals.lean).
  GIVEN WITH THE SEED: the statements are not yours to turn. If you find one false, say at which input.
  Laid BY PROGRAM, IN A SANDBOX (cutbox-rows.mjs): the forced cells as the released guide's own fill.sh prints them over the translation 5df4166a7e7b61e8… (all of the seat's roots in one cut). By AI agents, Wed Nov 11 2026. No macro, syntax, notation, axiom, sorry.
-/
import Derived.Test.YtahnlnflcgehaaaChecked
import GoSem.Claim
import GoSem.ClaimJoined
import GoSem.ClaimMapViews
import Derived.JoinedTies
import Derived.KernelRfl
namespace Go.Proofs.Ytahnlnflcgehaaa
/- THE CELL 'sum', in the pinned program and in every row, IS THE sha256 OF THE DUMP (.gsa) THAT YtahnlnflcgehaaaProg.lean LOADS. Nothing in Lean hashes anything: it is a label: what it is worth is what the hold of that sum in a sandbox is worth. -/
noncomputable def Try.pinned : Pinned := { name := "ytahnlnflcgehaaa", sum := "5df4166a7e7b61e85fb4500de448202c445d8c7dbb91538a226a4f249e1291f3", checked := Try.checked }
namespace Rows
def none {H : Type} : Left H := { results := [], args := [] }

/-- 'custumallaw05.FieldSums': WHATEVER THE INPUT: true; the input reads as it did. -/
def fieldSumsSpec : ChangeSpec := { name := "fieldSums", fn := fun _ => fun
  | [d1, d2] => { results := [.lit (.bool true)], args := [d1, d2] }
  | _ => none }
def fieldSumsRow : OpenClaim := { program := "ytahnlnflcgehaaa", sum := "5df4166a7e7b61e85fb4500de448202c445d8c7dbb91538a226a4f249e1291f3", func := "custumal/custumallaw05.FieldSums", spec := "fieldSums", inPlace := ["math/bits.Add64", "math/bits.Sub64"], apart := false }
def FieldSumsSaid : Prop := fieldSumsRow.holds Try.pinned (OpenSpec.ofChange fieldSumsSpec)

/-- ITS FALSE NEIGHBOUR: 'it returns false'. Refute it at one input. -/
def fieldSumsWrong : ChangeSpec := { name := "fieldSums", fn := fun _ => fun
  | [d1, d2] => { results := [.lit (.bool false)], args := [d1, d2] }
  | _ => none }
def FieldSumsWrongFalsely : Prop := fieldSumsRow.holds Try.pinned (OpenSpec.ofChange fieldSumsWrong)

/-- 'custumallaw05.FieldBytes': WHATEVER THE INPUT: true; the input reads as it did. -/
def fieldBytesSpec : ChangeSpec := { name := "fieldBytes", fn := fun _ => fun
  | [d1, d2, d3] => { results := [.lit (.bool true)], args := [d1, d2, d3] }
  | _ => none }
def fieldBytesRow : OpenClaim := { program := "ytahnlnflcgehaaa", sum := "5df4166a7e7b61e85fb4500de448202c445d8c7dbb91538a226a4f249e1291f3", func := "custumal/custumallaw05.FieldBytes", spec := "fieldBytes", inPlace := ["math/bits.Add64", "math/bits.Sub64"], apart := false }
def FieldBytesSaid : Prop := fieldBytesRow.holds Try.pinned (OpenSpec.ofChange fieldBytesSpec)

/-- ITS FALSE NEIGHBOUR: 'it returns false'. Refute it at one input. -/
def fieldBytesWrong : ChangeSpec := { name := "fieldBytes", fn := fun _ => fun
  | [d1, d2, d3] => { results := [.lit (.bool false)], args := [d1, d2, d3] }
  | _ => none }
def FieldBytesWrongFalsely : Prop := fieldBytesRow.holds Try.pinned (OpenSpec.ofChange fieldBytesWrong)

/-- 'custumallaw05.FieldPowers': WHATEVER THE INPUT: true; the input reads as it did. -/
def fieldPowersSpec : ChangeSpec := { name := "fieldPowers", fn := fun _ => fun
  | [d1, d2] => { results := [.lit (.bool true)], args := [d1, d2] }
  | _ => none }
def fieldPowersRow : OpenClaim := { program := "ytahnlnflcgehaaa", sum := "5df4166a7e7b61e85fb4500de448202c445d8c7dbb91538a226a4f249e1291f3", func := "custumal/custumallaw05.FieldPowers", spec := "fieldPowers", inPlace := ["math/bits.Add64", "math/bits.Sub64"], apart := false }
def FieldPowersSaid : Prop := fieldPowersRow.holds Try.pinned (OpenSpec.ofChange fieldPowersSpec)

/-- ITS FALSE NEIGHBOUR: 'it returns false'. Refute it at one input. -/
def fieldPowersWrong : ChangeSpec := { name := "fieldPowers", fn := fun _ => fun
  | [d1, d2] => { results := [.lit (.bool false)], args := [d1, d2] }
  | _ => none }
def FieldPowersWrongFalsely : Prop := fieldPowersRow.holds Try.pinned (OpenSpec.ofChange fieldPowersWrong)

/-- 'custumallaw05.FieldRoots': WHATEVER THE INPUT: true; the input reads as it did. -/
def fieldRootsSpec : ChangeSpec := { name := "fieldRoots", fn := fun _ => fun
  | [d1, d2] => { results := [.lit (.bool true)], args := [d1, d2] }
  | _ => none }
def fieldRootsRow : OpenClaim := { program := "ytahnlnflcgehaaa", sum := "5df4166a7e7b61e85fb4500de448202c445d8c7dbb91538a226a4f249e1291f3", func := "custumal/custumallaw05.FieldRoots", spec := "fieldRoots", inPlace := ["math/bits.Add64", "math/bits.Sub64"], apart := false }
def FieldRootsSaid : Prop := fieldRootsRow.holds Try.pinned (OpenSpec.ofChange fieldRootsSpec)

/-- ITS FALSE NEIGHBOUR: 'it returns false'. Refute it at one input. -/
def fieldRootsWrong : ChangeSpec := { name := "fieldRoots", fn := fun _ => fun
  | [d1, d2] => { results := [.lit (.bool false)], args := [d1, d2] }
  | _ => none }
def FieldRootsWrongFalsely : Prop := fieldRootsRow.holds Try.pinned (OpenSpec.ofChange fieldRootsWrong)

/-- 'custumallaw05.FieldLaws': WHATEVER THE INPUT: true; the input reads as it did. -/
def fieldLawsSpec : ChangeSpec := { name := "fieldLaws", fn := fun _ => fun
  | [d1, d2, d3] => { results := [.lit (.bool true)], args := [d1, d2, d3] }
  | _ => none }
def fieldLawsRow : OpenClaim := { program := "ytahnlnflcgehaaa", sum := "5df4166a7e7b61e85fb4500de448202c445d8c7dbb91538a226a4f249e1291f3", func := "custumal/custumallaw05.FieldLaws", spec := "fieldLaws", inPlace := ["math/bits.Add64", "math/bits.Sub64"], apart := false }
def FieldLawsSaid : Prop := fieldLawsRow.holds Try.pinned (OpenSpec.ofChange fieldLawsSpec)

/-- ITS FALSE NEIGHBOUR: 'it returns false'. Refute it at one input. -/
def fieldLawsWrong : ChangeSpec := { name := "fieldLaws", fn := fun _ => fun
  | [d1, d2, d3] => { results := [.lit (.bool false)], args := [d1, d2, d3] }
  | _ => none }
def FieldLawsWrongFalsely : Prop := fieldLawsRow.holds Try.pinned (OpenSpec.ofChange fieldLawsWrong)

/-- 'custumallaw06.ScalarSums': WHATEVER THE INPUT: true; the input reads as it did. -/
def scalarSumsSpec : ChangeSpec := { name := "scalarSums", fn := fun _ => fun
  | [d1, d2] => { results := [.lit (.bool true)], args := [d1, d2] }
  | _ => none }
def scalarSumsRow : OpenClaim := { program := "ytahnlnflcgehaaa", sum := "5df4166a7e7b61e85fb4500de448202c445d8c7dbb91538a226a4f249e1291f3", func := "custumal/custumallaw06.ScalarSums", spec := "scalarSums", inPlace := ["math/bits.Add64", "math/bits.Sub64"], apart := false }
def ScalarSumsSaid : Prop := scalarSumsRow.holds Try.pinned (OpenSpec.ofChange scalarSumsSpec)

/-- ITS FALSE NEIGHBOUR: 'it returns false'. Refute it at one input. -/
def scalarSumsWrong : ChangeSpec := { name := "scalarSums", fn := fun _ => fun
  | [d1, d2] => { results := [.lit (.bool false)], args := [d1, d2] }
  | _ => none }
def ScalarSumsWrongFalsely : Prop := scalarSumsRow.holds Try.pinned (OpenSpec.ofChange scalarSumsWrong)

/-- 'custumallaw06.ScalarCanon': WHATEVER THE INPUT: true; the input reads as it did. -/
def scalarCanonSpec : ChangeSpec := { name := "scalarCanon", fn := fun _ => fun
  | [d1, d2] => { results := [.lit (.bool true)], args := [d1, d2] }
  | _ => none }
def scalarCanonRow : OpenClaim := { program := "ytahnlnflcgehaaa", sum := "5df4166a7e7b61e85fb4500de448202c445d8c7dbb91538a226a4f249e1291f3", func := "custumal/custumallaw06.ScalarCanon", spec := "scalarCanon", inPlace := ["math/bits.Add64", "math/bits.Sub64"], apart := false }
def ScalarCanonSaid : Prop := scalarCanonRow.holds Try.pinned (OpenSpec.ofChange scalarCanonSpec)

/-- ITS FALSE NEIGHBOUR: 'it returns false'. Refute it at one input. -/
def scalarCanonWrong : ChangeSpec := { name := "scalarCanon", fn := fun _ => fun
  | [d1, d2] => { results := [.lit (.bool false)], args := [d1, d2] }
  | _ => none }
def ScalarCanonWrongFalsely : Prop := scalarCanonRow.holds Try.pinned (OpenSpec.ofChange scalarCanonWrong)

/-- 'custumallaw07.EdwardsTimes': WHATEVER THE INPUT: true; the input reads as it did. -/
def edwardsTimesSpec : ChangeSpec := { name := "edwardsTimes", fn := fun _ => fun
  | [d1, d2, d3] => { results := [.lit (.bool true)], args := [d1, d2, d3] }
  | _ => none }
def edwardsTimesRow : OpenClaim := { program := "ytahnlnflcgehaaa", sum := "5df4166a7e7b61e85fb4500de448202c445d8c7dbb91538a226a4f249e1291f3", func := "custumal/custumallaw07.EdwardsTimes", spec := "edwardsTimes", inPlace := ["math/bits.Add64", "math/bits.Sub64"], apart := false }
def EdwardsTimesSaid : Prop := edwardsTimesRow.holds Try.pinned (OpenSpec.ofChange edwardsTimesSpec)

/-- ITS FALSE NEIGHBOUR: 'it returns false'. Refute it at one input. -/
def edwardsTimesWrong : ChangeSpec := { name := "edwardsTimes", fn := fun _ => fun
  | [d1, d2, d3] => { results := [.lit (.bool false)], args := [d1, d2, d3] }
  | _ => none }
def EdwardsTimesWrongFalsely : Prop := edwardsTimesRow.holds Try.pinned (OpenSpec.ofChange edwardsTimesWrong)

/-- 'custumallaw07.EdwardsAdds': WHATEVER THE INPUT: true; the input reads as it did. -/
def edwardsAddsSpec : ChangeSpec := { name := "edwardsAdds", fn := fun _ => fun
  | [d1, d2, d3] => { results := [.lit (.bool true)], args := [d1, d2, d3] }
  | _ => none }
def edwardsAddsRow : OpenClaim := { program := "ytahnlnflcgehaaa", sum := "5df4166a7e7b61e85fb4500de448202c445d8c7dbb91538a226a4f249e1291f3", func := "custumal/custumallaw07.EdwardsAdds", spec := "edwardsAdds", inPlace := ["math/bits.Add64", "math/bits.Sub64"], apart := false }
def EdwardsAddsSaid : Prop := edwardsAddsRow.holds Try.pinned (OpenSpec.ofChange edwardsAddsSpec)

/-- ITS FALSE NEIGHBOUR: 'it returns false'. Refute it at one input. -/
def edwardsAddsWrong : ChangeSpec := { name := "edwardsAdds", fn := fun _ => fun
  | [d1, d2, d3] => { results := [.lit (.bool false)], args := [d1, d2, d3] }
  | _ => none }
def EdwardsAddsWrongFalsely : Prop := edwardsAddsRow.holds Try.pinned (OpenSpec.ofChange edwardsAddsWrong)

/-- 'custumallaw07.EdwardsDecodes': WHATEVER THE INPUT: true; the input reads as it did. -/
def edwardsDecodesSpec : ChangeSpec := { name := "edwardsDecodes", fn := fun _ => fun
  | [d] => { results := [.lit (.bool true)], args := [d] }
  | _ => none }
def edwardsDecodesRow : OpenClaim := { program := "ytahnlnflcgehaaa", sum := "5df4166a7e7b61e85fb4500de448202c445d8c7dbb91538a226a4f249e1291f3", func := "custumal/custumallaw07.EdwardsDecodes", spec := "edwardsDecodes", inPlace := ["math/bits.Add64", "math/bits.Sub64"], apart := false }
def EdwardsDecodesSaid : Prop := edwardsDecodesRow.holds Try.pinned (OpenSpec.ofChange edwardsDecodesSpec)

/-- ITS FALSE NEIGHBOUR: 'it returns false'. Refute it at one input. -/
def edwardsDecodesWrong : ChangeSpec := { name := "edwardsDecodes", fn := fun _ => fun
  | [d] => { results := [.lit (.bool false)], args := [d] }
  | _ => none }
def EdwardsDecodesWrongFalsely : Prop := edwardsDecodesRow.holds Try.pinned (OpenSpec.ofChange edwardsDecodesWrong)

/-- 'custumallaw07.EdwardsLaws': WHATEVER THE INPUT: true; the input reads as it did. -/
def edwardsLawsSpec : ChangeSpec := { name := "edwardsLaws", fn := fun _ => fun
  | [d1, d2] => { results := [.lit (.bool true)], args := [d1, d2] }
  | _ => none }
def edwardsLawsRow : OpenClaim := { program := "ytahnlnflcgehaaa", sum := "5df4166a7e7b61e85fb4500de448202c445d8c7dbb91538a226a4f249e1291f3", func := "custumal/custumallaw07.EdwardsLaws", spec := "edwardsLaws", inPlace := ["math/bits.Add64", "math/bits.Sub64"], apart := false }
def EdwardsLawsSaid : Prop := edwardsLawsRow.holds Try.pinned (OpenSpec.ofChange edwardsLawsSpec)

/-- ITS FALSE NEIGHBOUR: 'it returns false'. Refute it at one input. -/
def edwardsLawsWrong : ChangeSpec := { name := "edwardsLaws", fn := fun _ => fun
  | [d1, d2] => { results := [.lit (.bool false)], args := [d1, d2] }
  | _ => none }
def EdwardsLawsWrongFalsely : Prop := edwardsLawsRow.holds Try.pinned (OpenSpec.ofChange edwardsLawsWrong)

/- THE SECOND FORM. 'bulk': how many values and letters a reading holds, each counted each time it is reached (what is shared counts as often as it is met; a slice's spare places count too). A statement '..UptoSaid' is the law's where the arguments, and the package variables that the reading takes, are together of bulk at most 1048576: NARROWER than '..Said'. Prove '..Said' where nothing that the law and all that it calls make is longer than what came in: it says more and counts as full. Else prove '..UptoSaid'. A law counts once. -/
mutual
def uptoBulk {H : Type} : DataW H → Nat
  | .lit (.string bytes) => bytes.length + 1
  | .lit _ => 1
  | .nil => 1
  | .ptr d => uptoBulk d + 1
  | .slice elems spare => uptoBulkAll elems + uptoBulkAll spare + 1
  | .agg parts => uptoBulkAll parts + 1
  | .iface _ d => uptoBulk d + 1
  | .map entries => uptoBulkEntries entries + 1
  | .held _ => 1
def uptoBulkAll {H : Type} : List (DataW H) → Nat
  | [] => 0
  | d :: r => uptoBulk d + uptoBulkAll r
def uptoBulkEntries {H : Type} : List (Lit × DataW H) → Nat
  | [] => 0
  | x :: r => uptoBulkEntry x + uptoBulkEntries r
def uptoBulkEntry {H : Type} : Lit × DataW H → Nat
  | (.string bytes, d) => bytes.length + uptoBulk d + 1
  | (_, d) => uptoBulk d + 1
 end
def uptoSmall : (H : Type) → List (DataW H) → Bool := fun _ ds => decide (uptoBulkAll ds ≤ 1048576)
def OpenSpec.upto (s : _root_.Go.ChangeSpec) : _root_.Go.OpenSpec := { _root_.Go.OpenSpec.ofChange s with cond := some uptoSmall }

/-- 'custumallaw05.FieldSums', WHERE WHAT IT READS IS OF BULK AT MOST 1048576: true; the input reads as it did. -/
def fieldSumsUptoRow : OpenClaim := { program := "ytahnlnflcgehaaa", sum := "5df4166a7e7b61e85fb4500de448202c445d8c7dbb91538a226a4f249e1291f3", func := "custumal/custumallaw05.FieldSums", spec := "fieldSums", inPlace := ["math/bits.Add64", "math/bits.Sub64"], apart := false, narrowed := true }
def FieldSumsUptoSaid : Prop := fieldSumsUptoRow.holds Try.pinned (OpenSpec.upto fieldSumsSpec)

/-- 'custumallaw05.FieldBytes', WHERE WHAT IT READS IS OF BULK AT MOST 1048576: true; the input reads as it did. -/
def fieldBytesUptoRow : OpenClaim := { program := "ytahnlnflcgehaaa", sum := "5df4166a7e7b61e85fb4500de448202c445d8c7dbb91538a226a4f249e1291f3", func := "custumal/custumallaw05.FieldBytes", spec := "fieldBytes", inPlace := ["math/bits.Add64", "math/bits.Sub64"], apart := false, narrowed := true }
def FieldBytesUptoSaid : Prop := fieldBytesUptoRow.holds Try.pinned (OpenSpec.upto fieldBytesSpec)

/-- 'custumallaw05.FieldPowers', WHERE WHAT IT READS IS OF BULK AT MOST 1048576: true; the input reads as it did. -/
def fieldPowersUptoRow : OpenClaim := { program := "ytahnlnflcgehaaa", sum := "5df4166a7e7b61e85fb4500de448202c445d8c7dbb91538a226a4f249e1291f3", func := "custumal/custumallaw05.FieldPowers", spec := "fieldPowers", inPlace := ["math/bits.Add64", "math/bits.Sub64"], apart := false, narrowed := true }
def FieldPowersUptoSaid : Prop := fieldPowersUptoRow.holds Try.pinned (OpenSpec.upto fieldPowersSpec)

/-- 'custumallaw05.FieldRoots', WHERE WHAT IT READS IS OF BULK AT MOST 1048576: true; the input reads as it did. -/
def fieldRootsUptoRow : OpenClaim := { program := "ytahnlnflcgehaaa", sum := "5df4166a7e7b61e85fb4500de448202c445d8c7dbb91538a226a4f249e1291f3", func := "custumal/custumallaw05.FieldRoots", spec := "fieldRoots", inPlace := ["math/bits.Add64", "math/bits.Sub64"], apart := false, narrowed := true }
def FieldRootsUptoSaid : Prop := fieldRootsUptoRow.holds Try.pinned (OpenSpec.upto fieldRootsSpec)

/-- 'custumallaw05.FieldLaws', WHERE WHAT IT READS IS OF BULK AT MOST 1048576: true; the input reads as it did. -/
def fieldLawsUptoRow : OpenClaim := { program := "ytahnlnflcgehaaa", sum := "5df4166a7e7b61e85fb4500de448202c445d8c7dbb91538a226a4f249e1291f3", func := "custumal/custumallaw05.FieldLaws", spec := "fieldLaws", inPlace := ["math/bits.Add64", "math/bits.Sub64"], apart := false, narrowed := true }
def FieldLawsUptoSaid : Prop := fieldLawsUptoRow.holds Try.pinned (OpenSpec.upto fieldLawsSpec)

/-- 'custumallaw06.ScalarSums', WHERE WHAT IT READS IS OF BULK AT MOST 1048576: true; the input reads as it did. -/
def scalarSumsUptoRow : OpenClaim := { program := "ytahnlnflcgehaaa", sum := "5df4166a7e7b61e85fb4500de448202c445d8c7dbb91538a226a4f249e1291f3", func := "custumal/custumallaw06.ScalarSums", spec := "scalarSums", inPlace := ["math/bits.Add64", "math/bits.Sub64"], apart := false, narrowed := true }
def ScalarSumsUptoSaid : Prop := scalarSumsUptoRow.holds Try.pinned (OpenSpec.upto scalarSumsSpec)

/-- 'custumallaw06.ScalarCanon', WHERE WHAT IT READS IS OF BULK AT MOST 1048576: true; the input reads as it did. -/
def scalarCanonUptoRow : OpenClaim := { program := "ytahnlnflcgehaaa", sum := "5df4166a7e7b61e85fb4500de448202c445d8c7dbb91538a226a4f249e1291f3", func := "custumal/custumallaw06.ScalarCanon", spec := "scalarCanon", inPlace := ["math/bits.Add64", "math/bits.Sub64"], apart := false, narrowed := true }
def ScalarCanonUptoSaid : Prop := scalarCanonUptoRow.holds Try.pinned (OpenSpec.upto scalarCanonSpec)

/-- 'custumallaw07.EdwardsTimes', WHERE WHAT IT READS IS OF BULK AT MOST 1048576: true; the input reads as it did. -/
def edwardsTimesUptoRow : OpenClaim := { program := "ytahnlnflcgehaaa", sum := "5df4166a7e7b61e85fb4500de448202c445d8c7dbb91538a226a4f249e1291f3", func := "custumal/custumallaw07.EdwardsTimes", spec := "edwardsTimes", inPlace := ["math/bits.Add64", "math/bits.Sub64"], apart := false, narrowed := true }
def EdwardsTimesUptoSaid : Prop := edwardsTimesUptoRow.holds Try.pinned (OpenSpec.upto edwardsTimesSpec)

/-- 'custumallaw07.EdwardsAdds', WHERE WHAT IT READS IS OF BULK AT MOST 1048576: true; the input reads as it did. -/
def edwardsAddsUptoRow : OpenClaim := { program := "ytahnlnflcgehaaa", sum := "5df4166a7e7b61e85fb4500de448202c445d8c7dbb91538a226a4f249e1291f3", func := "custumal/custumallaw07.EdwardsAdds", spec := "edwardsAdds", inPlace := ["math/bits.Add64", "math/bits.Sub64"], apart := false, narrowed := true }
def EdwardsAddsUptoSaid : Prop := edwardsAddsUptoRow.holds Try.pinned (OpenSpec.upto edwardsAddsSpec)

/-- 'custumallaw07.EdwardsDecodes', WHERE WHAT IT READS IS OF BULK AT MOST 1048576: true; the input reads as it did. -/
def edwardsDecodesUptoRow : OpenClaim := { program := "ytahnlnflcgehaaa", sum := "5df4166a7e7b61e85fb4500de448202c445d8c7dbb91538a226a4f249e1291f3", func := "custumal/custumallaw07.EdwardsDecodes", spec := "edwardsDecodes", inPlace := ["math/bits.Add64", "math/bits.Sub64"], apart := false, narrowed := true }
def EdwardsDecodesUptoSaid : Prop := edwardsDecodesUptoRow.holds Try.pinned (OpenSpec.upto edwardsDecodesSpec)

/-- 'custumallaw07.EdwardsLaws', WHERE WHAT IT READS IS OF BULK AT MOST 1048576: true; the input reads as it did. -/
def edwardsLawsUptoRow : OpenClaim := { program := "ytahnlnflcgehaaa", sum := "5df4166a7e7b61e85fb4500de448202c445d8c7dbb91538a226a4f249e1291f3", func := "custumal/custumallaw07.EdwardsLaws", spec := "edwardsLaws", inPlace := ["math/bits.Add64", "math/bits.Sub64"], apart := false, narrowed := true }
def EdwardsLawsUptoSaid : Prop := edwardsLawsUptoRow.holds Try.pinned (OpenSpec.upto edwardsLawsSpec)

end Rows
end Go.Proofs.Ytahnlnflcgehaaa
