/-
  DERIVED. GIVEN WITH THE SEED: THE CARDS: each row of YtmoepalhoaekgaaDoorRows.lean that lists a variable, with what it lists TIED to the program's text (the seventh form; the later family's looks); each row that meets fmt, with fmt's text TOLD by the authors' own Lean function (tested against real Go, not proved from fmt's source: count such statements apart). THE CARD IS WHAT COUNTS. Prove the row's statement (the work); the ties are given (YtmoepalhoaekgaaDoorTie.lean); close each card by the builder's one call (the guide's Derived/Test/ToyasCard.lean, 'card_holds'). Laid BY PROGRAM, IN A SANDBOX (cutbox-door.mjs). By AI agents, Wed Nov 11 2026. No macro, syntax, notation, axiom, sorry.
-/
import Derived.Test.YtmoepalhoaekgaaDoorRows
import GoSem.ClaimSeven
namespace Go.Proofs.YtmoepalhoaekgaaDoor
namespace Rows

/-- THE TIED CARD OF 'custumallaw01.Sha2Roots'. -/
def sha2RootsCard : Claim7 := { stood := { row := sha2RootsRow, standIns := [], harness := (true, "6ccd7f79ec0558b5b8fa2eb68fa4506532e557d1be3dada8d2439aa8eb74a29f"), looks := false }, kinds := [], alts := [], laidByText := true, laidKinds := [.data, .data, .data], laidTests := true, laidLooks := .later }
def Sha2RootsCardSaid : Prop := Claim7.holds Tryd.pinned (.plain (OpenSpec.ofChange sha2RootsSpec)) sha2RootsCard

/-- THE TIED CARD OF 'custumallaw02.Sha5Sums'. -/
def sha5SumsCard : Claim7 := { stood := { row := sha5SumsRow, standIns := [], harness := (true, "6ccd7f79ec0558b5b8fa2eb68fa4506532e557d1be3dada8d2439aa8eb74a29f"), looks := false }, kinds := [], alts := [], laidByText := true, laidKinds := [.data, .data, .data], laidTests := true, laidLooks := .later }
def Sha5SumsCardSaid : Prop := Claim7.holds Tryd.pinned (.plain (OpenSpec.ofChange sha5SumsSpec)) sha5SumsCard

/-- THE TIED CARD OF 'custumallaw02.Sha5Sizes'. -/
def sha5SizesCard : Claim7 := { stood := { row := sha5SizesRow, standIns := [], harness := (true, "6ccd7f79ec0558b5b8fa2eb68fa4506532e557d1be3dada8d2439aa8eb74a29f"), looks := false }, kinds := [], alts := [], laidByText := true, laidKinds := [.data, .data, .data], laidTests := true, laidLooks := .later }
def Sha5SizesCardSaid : Prop := Claim7.holds Tryd.pinned (.plain (OpenSpec.ofChange sha5SizesSpec)) sha5SizesCard

/-- THE TIED CARD OF 'custumallaw02.Sha5Roots'. -/
def sha5RootsCard : Claim7 := { stood := { row := sha5RootsRow, standIns := [], harness := (true, "6ccd7f79ec0558b5b8fa2eb68fa4506532e557d1be3dada8d2439aa8eb74a29f"), looks := false }, kinds := [], alts := [], laidByText := true, laidKinds := [.data, .data, .data], laidTests := true, laidLooks := .later }
def Sha5RootsCardSaid : Prop := Claim7.holds Tryd.pinned (.plain (OpenSpec.ofChange sha5RootsSpec)) sha5RootsCard

/-- THE TIED CARD OF 'custumaltop.CustumalMarks'. -/
def custumalMarksCard : Claim7 := { stood := { row := custumalMarksRow, standIns := [], harness := (true, "6ccd7f79ec0558b5b8fa2eb68fa4506532e557d1be3dada8d2439aa8eb74a29f"), looks := false }, kinds := [], alts := [], laidByText := true, laidKinds := [.data, .data], laidTests := true, laidLooks := .later }
def CustumalMarksCardSaid : Prop := Claim7.holds Tryd.pinned (.plain (OpenSpec.ofChange custumalMarksSpec)) custumalMarksCard

/-- THE SECOND FORM's CARD OF 'custumallaw01.Sha2Roots'. -/
def sha2RootsUptoCard : Claim7 := { stood := { row := sha2RootsUptoRow, standIns := [], harness := (true, "6ccd7f79ec0558b5b8fa2eb68fa4506532e557d1be3dada8d2439aa8eb74a29f"), looks := false }, kinds := [], alts := [], laidByText := true, laidKinds := [.data, .data, .data], laidTests := true, laidLooks := .later }
def Sha2RootsUptoCardSaid : Prop := Claim7.holds Tryd.pinned (.plain (OpenSpec.upto sha2RootsSpec)) sha2RootsUptoCard

/-- THE SECOND FORM's CARD OF 'custumallaw02.Sha5Sums'. -/
def sha5SumsUptoCard : Claim7 := { stood := { row := sha5SumsUptoRow, standIns := [], harness := (true, "6ccd7f79ec0558b5b8fa2eb68fa4506532e557d1be3dada8d2439aa8eb74a29f"), looks := false }, kinds := [], alts := [], laidByText := true, laidKinds := [.data, .data, .data], laidTests := true, laidLooks := .later }
def Sha5SumsUptoCardSaid : Prop := Claim7.holds Tryd.pinned (.plain (OpenSpec.upto sha5SumsSpec)) sha5SumsUptoCard

/-- THE SECOND FORM's CARD OF 'custumallaw02.Sha5Sizes'. -/
def sha5SizesUptoCard : Claim7 := { stood := { row := sha5SizesUptoRow, standIns := [], harness := (true, "6ccd7f79ec0558b5b8fa2eb68fa4506532e557d1be3dada8d2439aa8eb74a29f"), looks := false }, kinds := [], alts := [], laidByText := true, laidKinds := [.data, .data, .data], laidTests := true, laidLooks := .later }
def Sha5SizesUptoCardSaid : Prop := Claim7.holds Tryd.pinned (.plain (OpenSpec.upto sha5SizesSpec)) sha5SizesUptoCard

/-- THE SECOND FORM's CARD OF 'custumallaw02.Sha5Roots'. -/
def sha5RootsUptoCard : Claim7 := { stood := { row := sha5RootsUptoRow, standIns := [], harness := (true, "6ccd7f79ec0558b5b8fa2eb68fa4506532e557d1be3dada8d2439aa8eb74a29f"), looks := false }, kinds := [], alts := [], laidByText := true, laidKinds := [.data, .data, .data], laidTests := true, laidLooks := .later }
def Sha5RootsUptoCardSaid : Prop := Claim7.holds Tryd.pinned (.plain (OpenSpec.upto sha5RootsSpec)) sha5RootsUptoCard

/-- THE SECOND FORM's CARD OF 'custumaltop.CustumalMarks'. -/
def custumalMarksUptoCard : Claim7 := { stood := { row := custumalMarksUptoRow, standIns := [], harness := (true, "6ccd7f79ec0558b5b8fa2eb68fa4506532e557d1be3dada8d2439aa8eb74a29f"), looks := false }, kinds := [], alts := [], laidByText := true, laidKinds := [.data, .data], laidTests := true, laidLooks := .later }
def CustumalMarksUptoCardSaid : Prop := Claim7.holds Tryd.pinned (.plain (OpenSpec.upto custumalMarksSpec)) custumalMarksUptoCard
end Rows
end Go.Proofs.YtmoepalhoaekgaaDoor
