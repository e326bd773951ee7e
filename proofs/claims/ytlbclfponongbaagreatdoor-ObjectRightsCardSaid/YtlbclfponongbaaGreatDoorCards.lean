/-
  DERIVED. GIVEN WITH THE SEED: THE CARDS: each row of YtlbclfponongbaaGreatDoorRows.lean that lists a variable, with what it lists TIED to the program's text (the seventh form; the later family's looks); each row that meets fmt, with fmt's text TOLD by the authors' own Lean function (tested against real Go, not proved from fmt's source: count such statements apart). THE CARD IS WHAT COUNTS. Prove the row's statement (the work); the ties are given (YtlbclfponongbaaGreatDoorTie.lean); close each card by the builder's one call (the guide's Derived/Test/ToyasCard.lean, 'card_holds'). Laid BY PROGRAM, IN A SANDBOX (cutbox-door.mjs). By AI agents, Wed Nov 11 2026. No macro, syntax, notation, axiom, sorry.
-/
import Derived.Test.YtlbclfponongbaaGreatDoorRows
import GoSem.ClaimSeven
namespace Go.Proofs.YtlbclfponongbaaGreatDoor
namespace Rows

/-- THE TIED CARD OF 'sedimentlaw06.ObjectRights'. -/
def objectRightsCard : Claim7 := { stood := { row := objectRightsRow, standIns := [], harness := (true, "7bba79cf9ae5633518d9b4fedbd93e1bbb267d71877a46626cb684a1638ca786"), looks := false }, kinds := [], alts := [], laidByText := true, laidKinds := [.data], laidTests := true, laidLooks := .later }
def ObjectRightsCardSaid : Prop := Claim7.holds Tryz.pinned (.plain (OpenSpec.ofChange objectRightsSpec)) objectRightsCard

/-- THE SECOND FORM's CARD OF 'sedimentlaw06.ObjectRights'. -/
def objectRightsUptoCard : Claim7 := { stood := { row := objectRightsUptoRow, standIns := [], harness := (true, "7bba79cf9ae5633518d9b4fedbd93e1bbb267d71877a46626cb684a1638ca786"), looks := false }, kinds := [], alts := [], laidByText := true, laidKinds := [.data], laidTests := true, laidLooks := .later }
def ObjectRightsUptoCardSaid : Prop := Claim7.holds Tryz.pinned (.plain (OpenSpec.upto objectRightsSpec)) objectRightsUptoCard
end Rows
end Go.Proofs.YtlbclfponongbaaGreatDoor
