/-
  DERIVED. GIVEN WITH THE SEED: THE CARDS: each row of YtjndkjgbplpfeaaDoorRows.lean that lists a variable, with what it lists TIED to the program's text (the seventh form; the later family's looks); each row that meets fmt, with fmt's text TOLD by the authors' own Lean function (tested against real Go, not proved from fmt's source: count such statements apart). THE CARD IS WHAT COUNTS. Prove the row's statement (the work); the ties are given (YtjndkjgbplpfeaaDoorTie.lean); close each card by the builder's one call (the guide's Derived/Test/ToyasCard.lean, 'card_holds'). Laid BY PROGRAM, IN A SANDBOX (cutbox-door.mjs). By AI agents, Wed Nov 11 2026. No macro, syntax, notation, axiom, sorry.
-/
import Derived.Test.YtjndkjgbplpfeaaDoorRows
import GoSem.ClaimSeven
namespace Go.Proofs.YtjndkjgbplpfeaaDoor
namespace Rows

/-- THE TIED CARD OF 'custumallaw16.RfclogRoots'. -/
def rfclogRootsCard : Claim7 := { stood := { row := rfclogRootsRow, standIns := [], harness := (true, "ecdcb5bfaacbffb2c3eaeb148df5844d3b76955fa05116652e254f8ecc473398"), looks := false }, kinds := [], alts := [], laidByText := true, laidKinds := [.data, .data, .data], laidTests := true, laidLooks := .later }
def RfclogRootsCardSaid : Prop := Claim7.holds Tryd.pinned (.plain (OpenSpec.ofChange rfclogRootsSpec)) rfclogRootsCard

/-- THE TIED CARD OF 'custumallaw16.RfclogShows'. -/
def rfclogShowsCard : Claim7 := { stood := { row := rfclogShowsRow, standIns := [], harness := (true, "ecdcb5bfaacbffb2c3eaeb148df5844d3b76955fa05116652e254f8ecc473398"), looks := false }, kinds := [], alts := [], laidByText := true, laidKinds := [.data, .data, .data], laidTests := true, laidLooks := .later }
def RfclogShowsCardSaid : Prop := Claim7.holds Tryd.pinned (.plain (OpenSpec.ofChange rfclogShowsSpec)) rfclogShowsCard

/-- THE TIED CARD OF 'custumallaw16.RfclogChecks'. -/
def rfclogChecksCard : Claim7 := { stood := { row := rfclogChecksRow, standIns := [], harness := (true, "ecdcb5bfaacbffb2c3eaeb148df5844d3b76955fa05116652e254f8ecc473398"), looks := false }, kinds := [], alts := [], laidByText := true, laidKinds := [.data, .data, .data], laidTests := true, laidLooks := .later }
def RfclogChecksCardSaid : Prop := Claim7.holds Tryd.pinned (.plain (OpenSpec.ofChange rfclogChecksSpec)) rfclogChecksCard

/-- THE TIED CARD OF 'custumallaw16.RfclogBent'. -/
def rfclogBentCard : Claim7 := { stood := { row := rfclogBentRow, standIns := [], harness := (true, "ecdcb5bfaacbffb2c3eaeb148df5844d3b76955fa05116652e254f8ecc473398"), looks := false }, kinds := [], alts := [], laidByText := true, laidKinds := [.data, .data, .data], laidTests := true, laidLooks := .later }
def RfclogBentCardSaid : Prop := Claim7.holds Tryd.pinned (.plain (OpenSpec.ofChange rfclogBentSpec)) rfclogBentCard

/-- THE TIED CARD OF 'custumallaw16.RfclogGrows'. -/
def rfclogGrowsCard : Claim7 := { stood := { row := rfclogGrowsRow, standIns := [], harness := (true, "ecdcb5bfaacbffb2c3eaeb148df5844d3b76955fa05116652e254f8ecc473398"), looks := false }, kinds := [], alts := [], laidByText := true, laidKinds := [.data, .data, .data], laidTests := true, laidLooks := .later }
def RfclogGrowsCardSaid : Prop := Claim7.holds Tryd.pinned (.plain (OpenSpec.ofChange rfclogGrowsSpec)) rfclogGrowsCard

/-- THE SECOND FORM's CARD OF 'custumallaw16.RfclogRoots'. -/
def rfclogRootsUptoCard : Claim7 := { stood := { row := rfclogRootsUptoRow, standIns := [], harness := (true, "ecdcb5bfaacbffb2c3eaeb148df5844d3b76955fa05116652e254f8ecc473398"), looks := false }, kinds := [], alts := [], laidByText := true, laidKinds := [.data, .data, .data], laidTests := true, laidLooks := .later }
def RfclogRootsUptoCardSaid : Prop := Claim7.holds Tryd.pinned (.plain (OpenSpec.upto rfclogRootsSpec)) rfclogRootsUptoCard

/-- THE SECOND FORM's CARD OF 'custumallaw16.RfclogShows'. -/
def rfclogShowsUptoCard : Claim7 := { stood := { row := rfclogShowsUptoRow, standIns := [], harness := (true, "ecdcb5bfaacbffb2c3eaeb148df5844d3b76955fa05116652e254f8ecc473398"), looks := false }, kinds := [], alts := [], laidByText := true, laidKinds := [.data, .data, .data], laidTests := true, laidLooks := .later }
def RfclogShowsUptoCardSaid : Prop := Claim7.holds Tryd.pinned (.plain (OpenSpec.upto rfclogShowsSpec)) rfclogShowsUptoCard

/-- THE SECOND FORM's CARD OF 'custumallaw16.RfclogChecks'. -/
def rfclogChecksUptoCard : Claim7 := { stood := { row := rfclogChecksUptoRow, standIns := [], harness := (true, "ecdcb5bfaacbffb2c3eaeb148df5844d3b76955fa05116652e254f8ecc473398"), looks := false }, kinds := [], alts := [], laidByText := true, laidKinds := [.data, .data, .data], laidTests := true, laidLooks := .later }
def RfclogChecksUptoCardSaid : Prop := Claim7.holds Tryd.pinned (.plain (OpenSpec.upto rfclogChecksSpec)) rfclogChecksUptoCard

/-- THE SECOND FORM's CARD OF 'custumallaw16.RfclogBent'. -/
def rfclogBentUptoCard : Claim7 := { stood := { row := rfclogBentUptoRow, standIns := [], harness := (true, "ecdcb5bfaacbffb2c3eaeb148df5844d3b76955fa05116652e254f8ecc473398"), looks := false }, kinds := [], alts := [], laidByText := true, laidKinds := [.data, .data, .data], laidTests := true, laidLooks := .later }
def RfclogBentUptoCardSaid : Prop := Claim7.holds Tryd.pinned (.plain (OpenSpec.upto rfclogBentSpec)) rfclogBentUptoCard

/-- THE SECOND FORM's CARD OF 'custumallaw16.RfclogGrows'. -/
def rfclogGrowsUptoCard : Claim7 := { stood := { row := rfclogGrowsUptoRow, standIns := [], harness := (true, "ecdcb5bfaacbffb2c3eaeb148df5844d3b76955fa05116652e254f8ecc473398"), looks := false }, kinds := [], alts := [], laidByText := true, laidKinds := [.data, .data, .data], laidTests := true, laidLooks := .later }
def RfclogGrowsUptoCardSaid : Prop := Claim7.holds Tryd.pinned (.plain (OpenSpec.upto rfclogGrowsSpec)) rfclogGrowsUptoCard
end Rows
end Go.Proofs.YtjndkjgbplpfeaaDoor
