/-
  DERIVED. GIVEN WITH THE SEED: THE CARDS: each row of YtlifnabeilnblaaGreatDoorRows.lean that lists a variable, with what it lists TIED to the program's text (the seventh form; the later family's looks); each row that meets fmt, with fmt's text TOLD by the authors' own Lean function (tested against real Go, not proved from fmt's source: count such statements apart). THE CARD IS WHAT COUNTS. Prove the row's statement (the work); the ties are given (YtlifnabeilnblaaGreatDoorTie.lean); close each card by the builder's one call (the guide's Derived/Test/ToyasCard.lean, 'card_holds'). Laid BY PROGRAM, IN A SANDBOX (cutbox-door.mjs). By AI agents, Wed Nov 11 2026. No macro, syntax, notation, axiom, sorry.
-/
import Derived.Test.YtlifnabeilnblaaGreatDoorRows
import GoSem.ClaimSeven
namespace Go.Proofs.YtlifnabeilnblaaGreatDoor
namespace Rows

/-- THE TIED CARD OF 'keyholelaw12.TypesFinds'. -/
def typesFindsCard : Claim7 := { stood := { row := typesFindsRow, standIns := [], harness := (true, "4e098c1883693e41cf674124e72ffb87c55bbf7e0ccacba5b4892e128d548aba"), looks := true }, kinds := [], alts := [], laidByText := true, laidKinds := [.data, .data, .data, .data, .listed, .data, .data, .data, .data, .data, .pinned], laidTests := true, laidLooks := .later }
def TypesFindsCardSaid : Prop := Claim7.holds Tryz.pinned (.plain (OpenSpec.ofChange typesFindsSpec)) typesFindsCard

/-- THE TIED CARD OF 'keyholelaw12.TypesParts'. -/
def typesPartsCard : Claim7 := { stood := { row := typesPartsRow, standIns := [], harness := (true, "4e098c1883693e41cf674124e72ffb87c55bbf7e0ccacba5b4892e128d548aba"), looks := true }, kinds := [], alts := [], laidByText := true, laidKinds := [.data, .data, .data, .data, .listed, .data, .data, .data, .data, .data, .pinned], laidTests := true, laidLooks := .later }
def TypesPartsCardSaid : Prop := Claim7.holds Tryz.pinned (.plain (OpenSpec.ofChange typesPartsSpec)) typesPartsCard

/-- THE SECOND FORM's CARD OF 'keyholelaw12.TypesFinds'. -/
def typesFindsUptoCard : Claim7 := { stood := { row := typesFindsUptoRow, standIns := [], harness := (true, "4e098c1883693e41cf674124e72ffb87c55bbf7e0ccacba5b4892e128d548aba"), looks := true }, kinds := [], alts := [], laidByText := true, laidKinds := [.data, .data, .data, .data, .listed, .data, .data, .data, .data, .data, .pinned], laidTests := true, laidLooks := .later }
def TypesFindsUptoCardSaid : Prop := Claim7.holds Tryz.pinned (.plain (OpenSpec.upto typesFindsSpec)) typesFindsUptoCard

/-- THE SECOND FORM's CARD OF 'keyholelaw12.TypesParts'. -/
def typesPartsUptoCard : Claim7 := { stood := { row := typesPartsUptoRow, standIns := [], harness := (true, "4e098c1883693e41cf674124e72ffb87c55bbf7e0ccacba5b4892e128d548aba"), looks := true }, kinds := [], alts := [], laidByText := true, laidKinds := [.data, .data, .data, .data, .listed, .data, .data, .data, .data, .data, .pinned], laidTests := true, laidLooks := .later }
def TypesPartsUptoCardSaid : Prop := Claim7.holds Tryz.pinned (.plain (OpenSpec.upto typesPartsSpec)) typesPartsUptoCard
end Rows
end Go.Proofs.YtlifnabeilnblaaGreatDoor
