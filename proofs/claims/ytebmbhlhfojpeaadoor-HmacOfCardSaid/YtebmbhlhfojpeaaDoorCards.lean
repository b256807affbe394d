/-
  DERIVED. GIVEN WITH THE SEED: THE CARDS: each row of YtebmbhlhfojpeaaDoorRows.lean that lists a variable, with what it lists TIED to the program's text (the seventh form; the later family's looks); each row that meets fmt, with fmt's text TOLD by the authors' own Lean function (tested against real Go, not proved from fmt's source: count such statements apart). THE CARD IS WHAT COUNTS. Prove the row's statement (the work); the ties are given (YtebmbhlhfojpeaaDoorTie.lean); close each card by the builder's one call (the guide's Derived/Test/ToyasCard.lean, 'card_holds'). Laid BY PROGRAM, IN A SANDBOX (cutbox-door.mjs). By AI agents, Wed Nov 11 2026. No macro, syntax, notation, axiom, sorry.
-/
import Derived.Test.YtebmbhlhfojpeaaDoorRows
import GoSem.ClaimSeven
namespace Go.Proofs.YtebmbhlhfojpeaaDoor
namespace Rows

/-- THE TIED CARD OF 'custumallaw01.Sha2Sums'. -/
def sha2SumsCard : Claim7 := { stood := { row := sha2SumsRow, standIns := [], harness := (true, "6871f8c4af047dc366e805467c7a30bf56bb2b3bc389a056a2a5a153f029021b"), looks := false }, kinds := [], alts := [], laidByText := true, laidKinds := [.data, .data, .data], laidTests := true, laidLooks := .later }
def Sha2SumsCardSaid : Prop := Claim7.holds Tryd.pinned (.plain (OpenSpec.ofChange sha2SumsSpec)) sha2SumsCard

/-- THE TIED CARD OF 'custumallaw01.Sha2Goes'. -/
def sha2GoesCard : Claim7 := { stood := { row := sha2GoesRow, standIns := [], harness := (true, "6871f8c4af047dc366e805467c7a30bf56bb2b3bc389a056a2a5a153f029021b"), looks := false }, kinds := [], alts := [], laidByText := true, laidKinds := [.data, .data, .data], laidTests := true, laidLooks := .later }
def Sha2GoesCardSaid : Prop := Claim7.holds Tryd.pinned (.plain (OpenSpec.ofChange sha2GoesSpec)) sha2GoesCard

/-- THE TIED CARD OF 'custumallaw01.Sha2Forks'. -/
def sha2ForksCard : Claim7 := { stood := { row := sha2ForksRow, standIns := [], harness := (true, "6871f8c4af047dc366e805467c7a30bf56bb2b3bc389a056a2a5a153f029021b"), looks := false }, kinds := [], alts := [], laidByText := true, laidKinds := [.data], laidTests := true, laidLooks := .later }
def Sha2ForksCardSaid : Prop := Claim7.holds Tryd.pinned (.plain (OpenSpec.ofChange sha2ForksSpec)) sha2ForksCard

/-- THE TIED CARD OF 'custumallaw01.Sha2Sizes'. -/
def sha2SizesCard : Claim7 := { stood := { row := sha2SizesRow, standIns := [], harness := (true, "6871f8c4af047dc366e805467c7a30bf56bb2b3bc389a056a2a5a153f029021b"), looks := false }, kinds := [], alts := [], laidByText := true, laidKinds := [.data, .data, .data], laidTests := true, laidLooks := .later }
def Sha2SizesCardSaid : Prop := Claim7.holds Tryd.pinned (.plain (OpenSpec.ofChange sha2SizesSpec)) sha2SizesCard

/-- THE TIED CARD OF 'custumallaw01.Sha2Roots'. -/
def sha2RootsCard : Claim7 := { stood := { row := sha2RootsRow, standIns := [], harness := (true, "6871f8c4af047dc366e805467c7a30bf56bb2b3bc389a056a2a5a153f029021b"), looks := false }, kinds := [], alts := [], laidByText := true, laidKinds := [.data, .data, .data], laidTests := true, laidLooks := .later }
def Sha2RootsCardSaid : Prop := Claim7.holds Tryd.pinned (.plain (OpenSpec.ofChange sha2RootsSpec)) sha2RootsCard

/-- THE TIED CARD OF 'custumallaw02.Sha5Sums'. -/
def sha5SumsCard : Claim7 := { stood := { row := sha5SumsRow, standIns := [], harness := (true, "6871f8c4af047dc366e805467c7a30bf56bb2b3bc389a056a2a5a153f029021b"), looks := false }, kinds := [], alts := [], laidByText := true, laidKinds := [.data, .data, .data], laidTests := true, laidLooks := .later }
def Sha5SumsCardSaid : Prop := Claim7.holds Tryd.pinned (.plain (OpenSpec.ofChange sha5SumsSpec)) sha5SumsCard

/-- THE TIED CARD OF 'custumallaw02.Sha5Sizes'. -/
def sha5SizesCard : Claim7 := { stood := { row := sha5SizesRow, standIns := [], harness := (true, "6871f8c4af047dc366e805467c7a30bf56bb2b3bc389a056a2a5a153f029021b"), looks := false }, kinds := [], alts := [], laidByText := true, laidKinds := [.data, .data, .data], laidTests := true, laidLooks := .later }
def Sha5SizesCardSaid : Prop := Claim7.holds Tryd.pinned (.plain (OpenSpec.ofChange sha5SizesSpec)) sha5SizesCard

/-- THE TIED CARD OF 'custumallaw02.Sha5Parts'. -/
def sha5PartsCard : Claim7 := { stood := { row := sha5PartsRow, standIns := [], harness := (true, "6871f8c4af047dc366e805467c7a30bf56bb2b3bc389a056a2a5a153f029021b"), looks := false }, kinds := [], alts := [], laidByText := true, laidKinds := [.data], laidTests := true, laidLooks := .later }
def Sha5PartsCardSaid : Prop := Claim7.holds Tryd.pinned (.plain (OpenSpec.ofChange sha5PartsSpec)) sha5PartsCard

/-- THE TIED CARD OF 'custumallaw02.Sha5Roots'. -/
def sha5RootsCard : Claim7 := { stood := { row := sha5RootsRow, standIns := [], harness := (true, "6871f8c4af047dc366e805467c7a30bf56bb2b3bc389a056a2a5a153f029021b"), looks := false }, kinds := [], alts := [], laidByText := true, laidKinds := [.data, .data, .data], laidTests := true, laidLooks := .later }
def Sha5RootsCardSaid : Prop := Claim7.holds Tryd.pinned (.plain (OpenSpec.ofChange sha5RootsSpec)) sha5RootsCard

/-- THE TIED CARD OF 'custumallaw03.HmacOf'. -/
def hmacOfCard : Claim7 := { stood := { row := hmacOfRow, standIns := [], harness := (true, "6871f8c4af047dc366e805467c7a30bf56bb2b3bc389a056a2a5a153f029021b"), looks := false }, kinds := [], alts := [], laidByText := true, laidKinds := [.data, .data, .data], laidTests := true, laidLooks := .later }
def HmacOfCardSaid : Prop := Claim7.holds Tryd.pinned (.plain (OpenSpec.ofChange hmacOfSpec)) hmacOfCard

/-- THE TIED CARD OF 'custumallaw03.HmacKeys'. -/
def hmacKeysCard : Claim7 := { stood := { row := hmacKeysRow, standIns := [], harness := (true, "6871f8c4af047dc366e805467c7a30bf56bb2b3bc389a056a2a5a153f029021b"), looks := false }, kinds := [], alts := [], laidByText := true, laidKinds := [.data, .data, .data], laidTests := true, laidLooks := .later }
def HmacKeysCardSaid : Prop := Claim7.holds Tryd.pinned (.plain (OpenSpec.ofChange hmacKeysSpec)) hmacKeysCard

/-- THE TIED CARD OF 'custumallaw03.HmacSames'. -/
def hmacSamesCard : Claim7 := { stood := { row := hmacSamesRow, standIns := [], harness := (true, "6871f8c4af047dc366e805467c7a30bf56bb2b3bc389a056a2a5a153f029021b"), looks := false }, kinds := [], alts := [], laidByText := true, laidKinds := [.data], laidTests := true, laidLooks := .later }
def HmacSamesCardSaid : Prop := Claim7.holds Tryd.pinned (.plain (OpenSpec.ofChange hmacSamesSpec)) hmacSamesCard

/-- THE SECOND FORM's CARD OF 'custumallaw01.Sha2Sums'. -/
def sha2SumsUptoCard : Claim7 := { stood := { row := sha2SumsUptoRow, standIns := [], harness := (true, "6871f8c4af047dc366e805467c7a30bf56bb2b3bc389a056a2a5a153f029021b"), looks := false }, kinds := [], alts := [], laidByText := true, laidKinds := [.data, .data, .data], laidTests := true, laidLooks := .later }
def Sha2SumsUptoCardSaid : Prop := Claim7.holds Tryd.pinned (.plain (OpenSpec.upto sha2SumsSpec)) sha2SumsUptoCard

/-- THE SECOND FORM's CARD OF 'custumallaw01.Sha2Goes'. -/
def sha2GoesUptoCard : Claim7 := { stood := { row := sha2GoesUptoRow, standIns := [], harness := (true, "6871f8c4af047dc366e805467c7a30bf56bb2b3bc389a056a2a5a153f029021b"), looks := false }, kinds := [], alts := [], laidByText := true, laidKinds := [.data, .data, .data], laidTests := true, laidLooks := .later }
def Sha2GoesUptoCardSaid : Prop := Claim7.holds Tryd.pinned (.plain (OpenSpec.upto sha2GoesSpec)) sha2GoesUptoCard

/-- THE SECOND FORM's CARD OF 'custumallaw01.Sha2Forks'. -/
def sha2ForksUptoCard : Claim7 := { stood := { row := sha2ForksUptoRow, standIns := [], harness := (true, "6871f8c4af047dc366e805467c7a30bf56bb2b3bc389a056a2a5a153f029021b"), looks := false }, kinds := [], alts := [], laidByText := true, laidKinds := [.data], laidTests := true, laidLooks := .later }
def Sha2ForksUptoCardSaid : Prop := Claim7.holds Tryd.pinned (.plain (OpenSpec.upto sha2ForksSpec)) sha2ForksUptoCard

/-- THE SECOND FORM's CARD OF 'custumallaw01.Sha2Sizes'. -/
def sha2SizesUptoCard : Claim7 := { stood := { row := sha2SizesUptoRow, standIns := [], harness := (true, "6871f8c4af047dc366e805467c7a30bf56bb2b3bc389a056a2a5a153f029021b"), looks := false }, kinds := [], alts := [], laidByText := true, laidKinds := [.data, .data, .data], laidTests := true, laidLooks := .later }
def Sha2SizesUptoCardSaid : Prop := Claim7.holds Tryd.pinned (.plain (OpenSpec.upto sha2SizesSpec)) sha2SizesUptoCard

/-- THE SECOND FORM's CARD OF 'custumallaw01.Sha2Roots'. -/
def sha2RootsUptoCard : Claim7 := { stood := { row := sha2RootsUptoRow, standIns := [], harness := (true, "6871f8c4af047dc366e805467c7a30bf56bb2b3bc389a056a2a5a153f029021b"), looks := false }, kinds := [], alts := [], laidByText := true, laidKinds := [.data, .data, .data], laidTests := true, laidLooks := .later }
def Sha2RootsUptoCardSaid : Prop := Claim7.holds Tryd.pinned (.plain (OpenSpec.upto sha2RootsSpec)) sha2RootsUptoCard

/-- THE SECOND FORM's CARD OF 'custumallaw02.Sha5Sums'. -/
def sha5SumsUptoCard : Claim7 := { stood := { row := sha5SumsUptoRow, standIns := [], harness := (true, "6871f8c4af047dc366e805467c7a30bf56bb2b3bc389a056a2a5a153f029021b"), looks := false }, kinds := [], alts := [], laidByText := true, laidKinds := [.data, .data, .data], laidTests := true, laidLooks := .later }
def Sha5SumsUptoCardSaid : Prop := Claim7.holds Tryd.pinned (.plain (OpenSpec.upto sha5SumsSpec)) sha5SumsUptoCard

/-- THE SECOND FORM's CARD OF 'custumallaw02.Sha5Sizes'. -/
def sha5SizesUptoCard : Claim7 := { stood := { row := sha5SizesUptoRow, standIns := [], harness := (true, "6871f8c4af047dc366e805467c7a30bf56bb2b3bc389a056a2a5a153f029021b"), looks := false }, kinds := [], alts := [], laidByText := true, laidKinds := [.data, .data, .data], laidTests := true, laidLooks := .later }
def Sha5SizesUptoCardSaid : Prop := Claim7.holds Tryd.pinned (.plain (OpenSpec.upto sha5SizesSpec)) sha5SizesUptoCard

/-- THE SECOND FORM's CARD OF 'custumallaw02.Sha5Parts'. -/
def sha5PartsUptoCard : Claim7 := { stood := { row := sha5PartsUptoRow, standIns := [], harness := (true, "6871f8c4af047dc366e805467c7a30bf56bb2b3bc389a056a2a5a153f029021b"), looks := false }, kinds := [], alts := [], laidByText := true, laidKinds := [.data], laidTests := true, laidLooks := .later }
def Sha5PartsUptoCardSaid : Prop := Claim7.holds Tryd.pinned (.plain (OpenSpec.upto sha5PartsSpec)) sha5PartsUptoCard

/-- THE SECOND FORM's CARD OF 'custumallaw02.Sha5Roots'. -/
def sha5RootsUptoCard : Claim7 := { stood := { row := sha5RootsUptoRow, standIns := [], harness := (true, "6871f8c4af047dc366e805467c7a30bf56bb2b3bc389a056a2a5a153f029021b"), looks := false }, kinds := [], alts := [], laidByText := true, laidKinds := [.data, .data, .data], laidTests := true, laidLooks := .later }
def Sha5RootsUptoCardSaid : Prop := Claim7.holds Tryd.pinned (.plain (OpenSpec.upto sha5RootsSpec)) sha5RootsUptoCard

/-- THE SECOND FORM's CARD OF 'custumallaw03.HmacOf'. -/
def hmacOfUptoCard : Claim7 := { stood := { row := hmacOfUptoRow, standIns := [], harness := (true, "6871f8c4af047dc366e805467c7a30bf56bb2b3bc389a056a2a5a153f029021b"), looks := false }, kinds := [], alts := [], laidByText := true, laidKinds := [.data, .data, .data], laidTests := true, laidLooks := .later }
def HmacOfUptoCardSaid : Prop := Claim7.holds Tryd.pinned (.plain (OpenSpec.upto hmacOfSpec)) hmacOfUptoCard

/-- THE SECOND FORM's CARD OF 'custumallaw03.HmacKeys'. -/
def hmacKeysUptoCard : Claim7 := { stood := { row := hmacKeysUptoRow, standIns := [], harness := (true, "6871f8c4af047dc366e805467c7a30bf56bb2b3bc389a056a2a5a153f029021b"), looks := false }, kinds := [], alts := [], laidByText := true, laidKinds := [.data, .data, .data], laidTests := true, laidLooks := .later }
def HmacKeysUptoCardSaid : Prop := Claim7.holds Tryd.pinned (.plain (OpenSpec.upto hmacKeysSpec)) hmacKeysUptoCard

/-- THE SECOND FORM's CARD OF 'custumallaw03.HmacSames'. -/
def hmacSamesUptoCard : Claim7 := { stood := { row := hmacSamesUptoRow, standIns := [], harness := (true, "6871f8c4af047dc366e805467c7a30bf56bb2b3bc389a056a2a5a153f029021b"), looks := false }, kinds := [], alts := [], laidByText := true, laidKinds := [.data], laidTests := true, laidLooks := .later }
def HmacSamesUptoCardSaid : Prop := Claim7.holds Tryd.pinned (.plain (OpenSpec.upto hmacSamesSpec)) hmacSamesUptoCard
end Rows
end Go.Proofs.YtebmbhlhfojpeaaDoor
