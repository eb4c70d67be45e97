/-
  DERIVED. GIVEN WITH THE SEED: THE CARDS: each row of YtmcblhgpcgnaoaaGreatDoorRows.lean that lists a variable, with what it lists TIED to the program's text (the seventh form; the later family's looks); each row that meets fmt, with fmt's text TOLD by the authors' own Lean function (tested against real Go, not proved from fmt's source: count such statements apart). THE CARD IS WHAT COUNTS. Prove the row's statement (the work); the ties are given (YtmcblhgpcgnaoaaGreatDoorTie.lean); close each card by the builder's one call (the guide's Derived/Test/ToyasCard.lean, 'card_holds'). Laid BY PROGRAM, IN A SANDBOX (cutbox-door.mjs). By AI agents, Wed Nov 11 2026. No macro, syntax, notation, axiom, sorry.
-/
import Derived.Test.YtmcblhgpcgnaoaaGreatDoorRows
import GoSem.ClaimSeven
namespace Go.Proofs.YtmcblhgpcgnaoaaGreatDoor
namespace Rows

/-- THE TIED CARD OF 'drydocklaw17.ImageMakes'. -/
def imageMakesCard : Claim7 := { stood := { row := imageMakesRow, standIns := [], harness := (true, "a3c6a961e1af2e38c52a438a0f3e8532e5dd3fa7eaf0f5eb226e6ae808d27a71"), looks := false }, kinds := [], alts := [], laidByText := true, laidKinds := [.data, .data, .data], laidTests := true, laidLooks := .later }
def ImageMakesCardSaid : Prop := Claim7.holds Tryz.pinned (.plain (OpenSpec.ofChange imageMakesSpec)) imageMakesCard

/-- THE TIED CARD OF 'drydocklaw17.ImageOpens'. -/
def imageOpensCard : Claim7 := { stood := { row := imageOpensRow, standIns := [], harness := (true, "a3c6a961e1af2e38c52a438a0f3e8532e5dd3fa7eaf0f5eb226e6ae808d27a71"), looks := false }, kinds := [], alts := [], laidByText := true, laidKinds := [.data, .data, .data], laidTests := true, laidLooks := .later }
def ImageOpensCardSaid : Prop := Claim7.holds Tryz.pinned (.plain (OpenSpec.ofChange imageOpensSpec)) imageOpensCard

/-- THE TIED CARD OF 'drydocklaw17.ImageTakes'. -/
def imageTakesCard : Claim7 := { stood := { row := imageTakesRow, standIns := [], harness := (true, "a3c6a961e1af2e38c52a438a0f3e8532e5dd3fa7eaf0f5eb226e6ae808d27a71"), looks := false }, kinds := [], alts := [], laidByText := true, laidKinds := [.data, .data, .data], laidTests := true, laidLooks := .later }
def ImageTakesCardSaid : Prop := Claim7.holds Tryz.pinned (.plain (OpenSpec.ofChange imageTakesSpec)) imageTakesCard

/-- THE TIED CARD OF 'drydocklaw17.ImageUndoes'. -/
def imageUndoesCard : Claim7 := { stood := { row := imageUndoesRow, standIns := [], harness := (true, "a3c6a961e1af2e38c52a438a0f3e8532e5dd3fa7eaf0f5eb226e6ae808d27a71"), looks := false }, kinds := [], alts := [], laidByText := true, laidKinds := [.data, .data, .data], laidTests := true, laidLooks := .later }
def ImageUndoesCardSaid : Prop := Claim7.holds Tryz.pinned (.plain (OpenSpec.ofChange imageUndoesSpec)) imageUndoesCard

/-- THE TIED CARD OF 'drydocklaw17.ImageSupers'. -/
def imageSupersCard : Claim7 := { stood := { row := imageSupersRow, standIns := [], harness := (true, "a3c6a961e1af2e38c52a438a0f3e8532e5dd3fa7eaf0f5eb226e6ae808d27a71"), looks := false }, kinds := [], alts := [], laidByText := true, laidKinds := [.data, .data, .data], laidTests := true, laidLooks := .later }
def ImageSupersCardSaid : Prop := Claim7.holds Tryz.pinned (.plain (OpenSpec.ofChange imageSupersSpec)) imageSupersCard

/-- THE TIED CARD OF 'drydocklaw17.ImageNone'. -/
def imageNoneCard : Claim7 := { stood := { row := imageNoneRow, standIns := [], harness := (true, "a3c6a961e1af2e38c52a438a0f3e8532e5dd3fa7eaf0f5eb226e6ae808d27a71"), looks := false }, kinds := [], alts := [], laidByText := true, laidKinds := [.data, .data, .data], laidTests := true, laidLooks := .later }
def ImageNoneCardSaid : Prop := Claim7.holds Tryz.pinned (.plain (OpenSpec.ofChange imageNoneSpec)) imageNoneCard

/-- THE TIED CARD OF 'drydocklaw18.CheckEmpty'. -/
def checkEmptyCard : Claim7 := { stood := { row := checkEmptyRow, standIns := [], harness := (true, "a3c6a961e1af2e38c52a438a0f3e8532e5dd3fa7eaf0f5eb226e6ae808d27a71"), looks := false }, kinds := [], alts := [], laidByText := true, laidKinds := [.data, .data, .data], laidTests := true, laidLooks := .later }
def CheckEmptyCardSaid : Prop := Claim7.holds Tryz.pinned (.plain (OpenSpec.ofChange checkEmptySpec)) checkEmptyCard

/-- THE TIED CARD OF 'drydocklaw18.CheckTurned'. -/
def checkTurnedCard : Claim7 := { stood := { row := checkTurnedRow, standIns := [], harness := (true, "a3c6a961e1af2e38c52a438a0f3e8532e5dd3fa7eaf0f5eb226e6ae808d27a71"), looks := false }, kinds := [], alts := [], laidByText := true, laidKinds := [.data, .data, .data], laidTests := true, laidLooks := .later }
def CheckTurnedCardSaid : Prop := Claim7.holds Tryz.pinned (.plain (OpenSpec.ofChange checkTurnedSpec)) checkTurnedCard

/-- THE SECOND FORM's CARD OF 'drydocklaw17.ImageMakes'. -/
def imageMakesUptoCard : Claim7 := { stood := { row := imageMakesUptoRow, standIns := [], harness := (true, "a3c6a961e1af2e38c52a438a0f3e8532e5dd3fa7eaf0f5eb226e6ae808d27a71"), looks := false }, kinds := [], alts := [], laidByText := true, laidKinds := [.data, .data, .data], laidTests := true, laidLooks := .later }
def ImageMakesUptoCardSaid : Prop := Claim7.holds Tryz.pinned (.plain (OpenSpec.upto imageMakesSpec)) imageMakesUptoCard

/-- THE SECOND FORM's CARD OF 'drydocklaw17.ImageOpens'. -/
def imageOpensUptoCard : Claim7 := { stood := { row := imageOpensUptoRow, standIns := [], harness := (true, "a3c6a961e1af2e38c52a438a0f3e8532e5dd3fa7eaf0f5eb226e6ae808d27a71"), looks := false }, kinds := [], alts := [], laidByText := true, laidKinds := [.data, .data, .data], laidTests := true, laidLooks := .later }
def ImageOpensUptoCardSaid : Prop := Claim7.holds Tryz.pinned (.plain (OpenSpec.upto imageOpensSpec)) imageOpensUptoCard

/-- THE SECOND FORM's CARD OF 'drydocklaw17.ImageTakes'. -/
def imageTakesUptoCard : Claim7 := { stood := { row := imageTakesUptoRow, standIns := [], harness := (true, "a3c6a961e1af2e38c52a438a0f3e8532e5dd3fa7eaf0f5eb226e6ae808d27a71"), looks := false }, kinds := [], alts := [], laidByText := true, laidKinds := [.data, .data, .data], laidTests := true, laidLooks := .later }
def ImageTakesUptoCardSaid : Prop := Claim7.holds Tryz.pinned (.plain (OpenSpec.upto imageTakesSpec)) imageTakesUptoCard

/-- THE SECOND FORM's CARD OF 'drydocklaw17.ImageUndoes'. -/
def imageUndoesUptoCard : Claim7 := { stood := { row := imageUndoesUptoRow, standIns := [], harness := (true, "a3c6a961e1af2e38c52a438a0f3e8532e5dd3fa7eaf0f5eb226e6ae808d27a71"), looks := false }, kinds := [], alts := [], laidByText := true, laidKinds := [.data, .data, .data], laidTests := true, laidLooks := .later }
def ImageUndoesUptoCardSaid : Prop := Claim7.holds Tryz.pinned (.plain (OpenSpec.upto imageUndoesSpec)) imageUndoesUptoCard

/-- THE SECOND FORM's CARD OF 'drydocklaw17.ImageSupers'. -/
def imageSupersUptoCard : Claim7 := { stood := { row := imageSupersUptoRow, standIns := [], harness := (true, "a3c6a961e1af2e38c52a438a0f3e8532e5dd3fa7eaf0f5eb226e6ae808d27a71"), looks := false }, kinds := [], alts := [], laidByText := true, laidKinds := [.data, .data, .data], laidTests := true, laidLooks := .later }
def ImageSupersUptoCardSaid : Prop := Claim7.holds Tryz.pinned (.plain (OpenSpec.upto imageSupersSpec)) imageSupersUptoCard

/-- THE SECOND FORM's CARD OF 'drydocklaw17.ImageNone'. -/
def imageNoneUptoCard : Claim7 := { stood := { row := imageNoneUptoRow, standIns := [], harness := (true, "a3c6a961e1af2e38c52a438a0f3e8532e5dd3fa7eaf0f5eb226e6ae808d27a71"), looks := false }, kinds := [], alts := [], laidByText := true, laidKinds := [.data, .data, .data], laidTests := true, laidLooks := .later }
def ImageNoneUptoCardSaid : Prop := Claim7.holds Tryz.pinned (.plain (OpenSpec.upto imageNoneSpec)) imageNoneUptoCard

/-- THE SECOND FORM's CARD OF 'drydocklaw18.CheckEmpty'. -/
def checkEmptyUptoCard : Claim7 := { stood := { row := checkEmptyUptoRow, standIns := [], harness := (true, "a3c6a961e1af2e38c52a438a0f3e8532e5dd3fa7eaf0f5eb226e6ae808d27a71"), looks := false }, kinds := [], alts := [], laidByText := true, laidKinds := [.data, .data, .data], laidTests := true, laidLooks := .later }
def CheckEmptyUptoCardSaid : Prop := Claim7.holds Tryz.pinned (.plain (OpenSpec.upto checkEmptySpec)) checkEmptyUptoCard

/-- THE SECOND FORM's CARD OF 'drydocklaw18.CheckTurned'. -/
def checkTurnedUptoCard : Claim7 := { stood := { row := checkTurnedUptoRow, standIns := [], harness := (true, "a3c6a961e1af2e38c52a438a0f3e8532e5dd3fa7eaf0f5eb226e6ae808d27a71"), looks := false }, kinds := [], alts := [], laidByText := true, laidKinds := [.data, .data, .data], laidTests := true, laidLooks := .later }
def CheckTurnedUptoCardSaid : Prop := Claim7.holds Tryz.pinned (.plain (OpenSpec.upto checkTurnedSpec)) checkTurnedUptoCard
end Rows
end Go.Proofs.YtmcblhgpcgnaoaaGreatDoor
