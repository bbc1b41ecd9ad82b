/-
  DERIVED. GIVEN WITH THE SEED: THE CARDS: each row of YtkpomjdablopaabGreatDoorRows.lean that lists a variable, with what it lists TIED to the program's text (the seventh form; the later family's looks); each row that meets fmt, with fmt's text TOLD by the authors' own Lean function (tested against real Go, not proved from fmt's source: count such statements apart). THE CARD IS WHAT COUNTS. Prove the row's statement (the work); the ties are given (YtkpomjdablopaabGreatDoorTie.lean); close each card by the builder's one call (the guide's Derived/Test/ToyasCard.lean, 'card_holds'). Laid BY PROGRAM, IN A SANDBOX (cutbox-door.mjs). By AI agents, Wed Nov 11 2026. No macro, syntax, notation, axiom, sorry.
-/
import Derived.Test.YtkpomjdablopaabGreatDoorRows
import GoSem.ClaimSeven
namespace Go.Proofs.YtkpomjdablopaabGreatDoor
namespace Rows

/-- THE TIED CARD OF 'keyholelaw15.CostStatements'. -/
def costStatementsCard : Claim7 := { stood := { row := costStatementsRow, standIns := [], harness := (true, "0353fb91c3c737f6f5c89878893d7d691887094f6d6c97a77477eb8afd5e15d0"), looks := true }, kinds := [], alts := [], laidByText := true, laidKinds := [.data, .listed, .data, .data, .data, .data, .data, .pinned], laidTests := true, laidLooks := .later }
def CostStatementsCardSaid : Prop := Claim7.holds Tryz.pinned (.plain (OpenSpec.ofChange costStatementsSpec)) costStatementsCard

/-- THE SECOND FORM's CARD OF 'keyholelaw15.CostStatements'. -/
def costStatementsUptoCard : Claim7 := { stood := { row := costStatementsUptoRow, standIns := [], harness := (true, "0353fb91c3c737f6f5c89878893d7d691887094f6d6c97a77477eb8afd5e15d0"), looks := true }, kinds := [], alts := [], laidByText := true, laidKinds := [.data, .listed, .data, .data, .data, .data, .data, .pinned], laidTests := true, laidLooks := .later }
def CostStatementsUptoCardSaid : Prop := Claim7.holds Tryz.pinned (.plain (OpenSpec.upto costStatementsSpec)) costStatementsUptoCard
end Rows
end Go.Proofs.YtkpomjdablopaabGreatDoor
