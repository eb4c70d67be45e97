/-
  DERIVED. GIVEN WITH THE SEED: THE CARDS: each row of YtcefmpnijjcekaaGreatDoorRows.lean that lists a variable, with what it lists TIED to the program's text (the seventh form; the later family's looks); each row that meets fmt, with fmt's text TOLD by the authors' own Lean function (tested against real Go, not proved from fmt's source: count such statements apart). THE CARD IS WHAT COUNTS. Prove the row's statement (the work); the ties are given (YtcefmpnijjcekaaGreatDoorTie.lean); close each card by the builder's one call (the guide's Derived/Test/ToyasCard.lean, 'card_holds'). Laid BY PROGRAM, IN A SANDBOX (cutbox-door.mjs). By AI agents, Wed Nov 11 2026. No macro, syntax, notation, axiom, sorry.
-/
import Derived.Test.YtcefmpnijjcekaaGreatDoorRows
import GoSem.ClaimSeven
namespace Go.Proofs.YtcefmpnijjcekaaGreatDoor
namespace Rows

/-- THE TIED CARD OF 'drydocklaw17.ImageTakes'. -/
def imageTakesCard : Claim7 := { stood := { row := imageTakesRow, standIns := [], harness := (true, "5dcfc01f28d2bdf90214378a917321847ec1b4c1b5beb44af23b956acc78441a"), looks := false }, kinds := [], alts := [], laidByText := true, laidKinds := [.data, .data, .data], laidTests := true, laidLooks := .later }
def ImageTakesCardSaid : Prop := Claim7.holds Tryz.pinned (.plain (OpenSpec.ofChange imageTakesSpec)) imageTakesCard

/-- THE TIED CARD OF 'drydocklaw17.ImageSupers'. -/
def imageSupersCard : Claim7 := { stood := { row := imageSupersRow, standIns := [], harness := (true, "5dcfc01f28d2bdf90214378a917321847ec1b4c1b5beb44af23b956acc78441a"), looks := false }, kinds := [], alts := [], laidByText := true, laidKinds := [.data, .data, .data], laidTests := true, laidLooks := .later }
def ImageSupersCardSaid : Prop := Claim7.holds Tryz.pinned (.plain (OpenSpec.ofChange imageSupersSpec)) imageSupersCard

/-- THE SECOND FORM's CARD OF 'drydocklaw17.ImageTakes'. -/
def imageTakesUptoCard : Claim7 := { stood := { row := imageTakesUptoRow, standIns := [], harness := (true, "5dcfc01f28d2bdf90214378a917321847ec1b4c1b5beb44af23b956acc78441a"), looks := false }, kinds := [], alts := [], laidByText := true, laidKinds := [.data, .data, .data], laidTests := true, laidLooks := .later }
def ImageTakesUptoCardSaid : Prop := Claim7.holds Tryz.pinned (.plain (OpenSpec.upto imageTakesSpec)) imageTakesUptoCard

/-- THE SECOND FORM's CARD OF 'drydocklaw17.ImageSupers'. -/
def imageSupersUptoCard : Claim7 := { stood := { row := imageSupersUptoRow, standIns := [], harness := (true, "5dcfc01f28d2bdf90214378a917321847ec1b4c1b5beb44af23b956acc78441a"), looks := false }, kinds := [], alts := [], laidByText := true, laidKinds := [.data, .data, .data], laidTests := true, laidLooks := .later }
def ImageSupersUptoCardSaid : Prop := Claim7.holds Tryz.pinned (.plain (OpenSpec.upto imageSupersSpec)) imageSupersUptoCard
end Rows
end Go.Proofs.YtcefmpnijjcekaaGreatDoor
