/-
  DERIVED. GIVEN WITH THE SEED: THE CARDS: each row of YtbpblheaiancaaaDoorRows.lean that lists a variable, with what it lists TIED to the program's text (the seventh form; the later family's looks); each row that meets fmt, with fmt's text TOLD by the authors' own Lean function (tested against real Go, not proved from fmt's source: count such statements apart). THE CARD IS WHAT COUNTS. Prove the row's statement (the work); the ties are given (YtbpblheaiancaaaDoorTie.lean); close each card by the builder's one call (the guide's Derived/Test/ToyasCard.lean, 'card_holds'). Laid BY PROGRAM, IN A SANDBOX (cutbox-door.mjs). By AI agents, Wed Nov 11 2026. No macro, syntax, notation, axiom, sorry.
-/
import Derived.Test.YtbpblheaiancaaaDoorRows
import GoSem.ClaimSeven
namespace Go.Proofs.YtbpblheaiancaaaDoor
namespace Rows

/-- THE TIED CARD OF 'custumallaw17.CommitMakes'. -/
def commitMakesCard : Claim7 := { stood := { row := commitMakesRow, standIns := [], harness := (true, "f7c70b15a3522c1de3d13cb9146d1a8ccca19755a1b14aa5000b52da591dd708"), looks := false }, kinds := [], alts := [], laidByText := true, laidKinds := [.data, .data, .data], laidTests := true, laidLooks := .later }
def CommitMakesCardSaid : Prop := Claim7.holds Tryd.pinned (.plain (OpenSpec.ofChange commitMakesSpec)) commitMakesCard

/-- THE TIED CARD OF 'custumallaw17.CommitChecks'. -/
def commitChecksCard : Claim7 := { stood := { row := commitChecksRow, standIns := [], harness := (true, "f7c70b15a3522c1de3d13cb9146d1a8ccca19755a1b14aa5000b52da591dd708"), looks := false }, kinds := [], alts := [], laidByText := true, laidKinds := [.data, .data, .data], laidTests := true, laidLooks := .later }
def CommitChecksCardSaid : Prop := Claim7.holds Tryd.pinned (.plain (OpenSpec.ofChange commitChecksSpec)) commitChecksCard

/-- THE TIED CARD OF 'custumallaw17.CommitOne'. -/
def commitOneCard : Claim7 := { stood := { row := commitOneRow, standIns := [], harness := (true, "f7c70b15a3522c1de3d13cb9146d1a8ccca19755a1b14aa5000b52da591dd708"), looks := false }, kinds := [], alts := [], laidByText := true, laidKinds := [.data, .data, .data], laidTests := true, laidLooks := .later }
def CommitOneCardSaid : Prop := Claim7.holds Tryd.pinned (.plain (OpenSpec.ofChange commitOneSpec)) commitOneCard

/-- THE TIED CARD OF 'custumallaw18.ChainMakes'. -/
def chainMakesCard : Claim7 := { stood := { row := chainMakesRow, standIns := [], harness := (true, "f7c70b15a3522c1de3d13cb9146d1a8ccca19755a1b14aa5000b52da591dd708"), looks := false }, kinds := [], alts := [], laidByText := true, laidKinds := [.data, .data, .data], laidTests := true, laidLooks := .later }
def ChainMakesCardSaid : Prop := Claim7.holds Tryd.pinned (.plain (OpenSpec.ofChange chainMakesSpec)) chainMakesCard

/-- THE TIED CARD OF 'custumallaw18.ChainChecks'. -/
def chainChecksCard : Claim7 := { stood := { row := chainChecksRow, standIns := [], harness := (true, "f7c70b15a3522c1de3d13cb9146d1a8ccca19755a1b14aa5000b52da591dd708"), looks := false }, kinds := [], alts := [], laidByText := true, laidKinds := [.data, .data, .data], laidTests := true, laidLooks := .later }
def ChainChecksCardSaid : Prop := Claim7.holds Tryd.pinned (.plain (OpenSpec.ofChange chainChecksSpec)) chainChecksCard

/-- THE TIED CARD OF 'custumallaw18.ChainOne'. -/
def chainOneCard : Claim7 := { stood := { row := chainOneRow, standIns := [], harness := (true, "f7c70b15a3522c1de3d13cb9146d1a8ccca19755a1b14aa5000b52da591dd708"), looks := false }, kinds := [], alts := [], laidByText := true, laidKinds := [.data, .data, .data], laidTests := true, laidLooks := .later }
def ChainOneCardSaid : Prop := Claim7.holds Tryd.pinned (.plain (OpenSpec.ofChange chainOneSpec)) chainOneCard

/-- THE TIED CARD OF 'custumaltop.CustumalMarks'. -/
def custumalMarksCard : Claim7 := { stood := { row := custumalMarksRow, standIns := [], harness := (true, "f7c70b15a3522c1de3d13cb9146d1a8ccca19755a1b14aa5000b52da591dd708"), looks := false }, kinds := [], alts := [], laidByText := true, laidKinds := [.data, .data], laidTests := true, laidLooks := .later }
def CustumalMarksCardSaid : Prop := Claim7.holds Tryd.pinned (.plain (OpenSpec.ofChange custumalMarksSpec)) custumalMarksCard

/-- THE SECOND FORM's CARD OF 'custumallaw17.CommitMakes'. -/
def commitMakesUptoCard : Claim7 := { stood := { row := commitMakesUptoRow, standIns := [], harness := (true, "f7c70b15a3522c1de3d13cb9146d1a8ccca19755a1b14aa5000b52da591dd708"), looks := false }, kinds := [], alts := [], laidByText := true, laidKinds := [.data, .data, .data], laidTests := true, laidLooks := .later }
def CommitMakesUptoCardSaid : Prop := Claim7.holds Tryd.pinned (.plain (OpenSpec.upto commitMakesSpec)) commitMakesUptoCard

/-- THE SECOND FORM's CARD OF 'custumallaw17.CommitChecks'. -/
def commitChecksUptoCard : Claim7 := { stood := { row := commitChecksUptoRow, standIns := [], harness := (true, "f7c70b15a3522c1de3d13cb9146d1a8ccca19755a1b14aa5000b52da591dd708"), looks := false }, kinds := [], alts := [], laidByText := true, laidKinds := [.data, .data, .data], laidTests := true, laidLooks := .later }
def CommitChecksUptoCardSaid : Prop := Claim7.holds Tryd.pinned (.plain (OpenSpec.upto commitChecksSpec)) commitChecksUptoCard

/-- THE SECOND FORM's CARD OF 'custumallaw17.CommitOne'. -/
def commitOneUptoCard : Claim7 := { stood := { row := commitOneUptoRow, standIns := [], harness := (true, "f7c70b15a3522c1de3d13cb9146d1a8ccca19755a1b14aa5000b52da591dd708"), looks := false }, kinds := [], alts := [], laidByText := true, laidKinds := [.data, .data, .data], laidTests := true, laidLooks := .later }
def CommitOneUptoCardSaid : Prop := Claim7.holds Tryd.pinned (.plain (OpenSpec.upto commitOneSpec)) commitOneUptoCard

/-- THE SECOND FORM's CARD OF 'custumallaw18.ChainMakes'. -/
def chainMakesUptoCard : Claim7 := { stood := { row := chainMakesUptoRow, standIns := [], harness := (true, "f7c70b15a3522c1de3d13cb9146d1a8ccca19755a1b14aa5000b52da591dd708"), looks := false }, kinds := [], alts := [], laidByText := true, laidKinds := [.data, .data, .data], laidTests := true, laidLooks := .later }
def ChainMakesUptoCardSaid : Prop := Claim7.holds Tryd.pinned (.plain (OpenSpec.upto chainMakesSpec)) chainMakesUptoCard

/-- THE SECOND FORM's CARD OF 'custumallaw18.ChainChecks'. -/
def chainChecksUptoCard : Claim7 := { stood := { row := chainChecksUptoRow, standIns := [], harness := (true, "f7c70b15a3522c1de3d13cb9146d1a8ccca19755a1b14aa5000b52da591dd708"), looks := false }, kinds := [], alts := [], laidByText := true, laidKinds := [.data, .data, .data], laidTests := true, laidLooks := .later }
def ChainChecksUptoCardSaid : Prop := Claim7.holds Tryd.pinned (.plain (OpenSpec.upto chainChecksSpec)) chainChecksUptoCard

/-- THE SECOND FORM's CARD OF 'custumallaw18.ChainOne'. -/
def chainOneUptoCard : Claim7 := { stood := { row := chainOneUptoRow, standIns := [], harness := (true, "f7c70b15a3522c1de3d13cb9146d1a8ccca19755a1b14aa5000b52da591dd708"), looks := false }, kinds := [], alts := [], laidByText := true, laidKinds := [.data, .data, .data], laidTests := true, laidLooks := .later }
def ChainOneUptoCardSaid : Prop := Claim7.holds Tryd.pinned (.plain (OpenSpec.upto chainOneSpec)) chainOneUptoCard

/-- THE SECOND FORM's CARD OF 'custumaltop.CustumalMarks'. -/
def custumalMarksUptoCard : Claim7 := { stood := { row := custumalMarksUptoRow, standIns := [], harness := (true, "f7c70b15a3522c1de3d13cb9146d1a8ccca19755a1b14aa5000b52da591dd708"), looks := false }, kinds := [], alts := [], laidByText := true, laidKinds := [.data, .data], laidTests := true, laidLooks := .later }
def CustumalMarksUptoCardSaid : Prop := Claim7.holds Tryd.pinned (.plain (OpenSpec.upto custumalMarksSpec)) custumalMarksUptoCard
end Rows
end Go.Proofs.YtbpblheaiancaaaDoor
