/-
  DERIVED. GIVEN WITH THE SEED: THE CARDS: each row of YtpfaddgcfacgdaaGreatDoorRows.lean that lists a variable, with what it lists TIED to the program's text (the seventh form; the later family's looks); each row that meets fmt, with fmt's text TOLD by the authors' own Lean function (tested against real Go, not proved from fmt's source: count such statements apart). THE CARD IS WHAT COUNTS. Prove the row's statement (the work); the ties are given (YtpfaddgcfacgdaaGreatDoorTie.lean); close each card by the builder's one call (the guide's Derived/Test/ToyasCard.lean, 'card_holds'). Laid BY PROGRAM, IN A SANDBOX (cutbox-door.mjs). By AI agents, Wed Nov 11 2026. No macro, syntax, notation, axiom, sorry.
-/
import Derived.Test.YtpfaddgcfacgdaaGreatDoorRows
import GoSem.ClaimSeven
namespace Go.Proofs.YtpfaddgcfacgdaaGreatDoor
namespace Rows

/-- THE TIED CARD OF 'keyholelaw02.RationalClean'. -/
def rationalCleanCard : Claim7 := { stood := { row := rationalCleanRow, standIns := [], harness := (true, "aae3487ee815bc20e3025a2fc84304fd0b27132b90ef9797a7264dab0f882081"), looks := true }, kinds := [], alts := [], laidByText := true, laidKinds := [.data, .data, .data, .data, .sentinel, .sentinel, .pinned], laidTests := true, laidLooks := .later }
def RationalCleanCardSaid : Prop := Claim7.holds Tryz.pinned (.plain (OpenSpec.ofChange rationalCleanSpec)) rationalCleanCard

/-- THE TIED CARD OF 'keyholelaw02.RationalNew'. -/
def rationalNewCard : Claim7 := { stood := { row := rationalNewRow, standIns := [], harness := (true, "aae3487ee815bc20e3025a2fc84304fd0b27132b90ef9797a7264dab0f882081"), looks := true }, kinds := [], alts := [], laidByText := true, laidKinds := [.data, .data, .data, .data, .sentinel, .sentinel, .pinned], laidTests := true, laidLooks := .later }
def RationalNewCardSaid : Prop := Claim7.holds Tryz.pinned (.plain (OpenSpec.ofChange rationalNewSpec)) rationalNewCard

/-- THE TIED CARD OF 'keyholelaw02.RationalOf'. -/
def rationalOfCard : Claim7 := { stood := { row := rationalOfRow, standIns := [], harness := (true, "aae3487ee815bc20e3025a2fc84304fd0b27132b90ef9797a7264dab0f882081"), looks := true }, kinds := [], alts := [], laidByText := true, laidKinds := [.data, .data, .data, .data, .sentinel, .sentinel, .pinned], laidTests := true, laidLooks := .later }
def RationalOfCardSaid : Prop := Claim7.holds Tryz.pinned (.plain (OpenSpec.ofChange rationalOfSpec)) rationalOfCard

/-- THE TIED CARD OF 'keyholelaw02.RationalArithmetic'. -/
def rationalArithmeticCard : Claim7 := { stood := { row := rationalArithmeticRow, standIns := [], harness := (true, "aae3487ee815bc20e3025a2fc84304fd0b27132b90ef9797a7264dab0f882081"), looks := true }, kinds := [], alts := [], laidByText := true, laidKinds := [.data, .data, .data, .data, .sentinel, .sentinel, .pinned], laidTests := true, laidLooks := .later }
def RationalArithmeticCardSaid : Prop := Claim7.holds Tryz.pinned (.plain (OpenSpec.ofChange rationalArithmeticSpec)) rationalArithmeticCard

/-- THE TIED CARD OF 'keyholelaw02.RationalField'. -/
def rationalFieldCard : Claim7 := { stood := { row := rationalFieldRow, standIns := [], harness := (true, "aae3487ee815bc20e3025a2fc84304fd0b27132b90ef9797a7264dab0f882081"), looks := true }, kinds := [], alts := [], laidByText := true, laidKinds := [.data, .data, .data, .data, .sentinel, .sentinel, .pinned], laidTests := true, laidLooks := .later }
def RationalFieldCardSaid : Prop := Claim7.holds Tryz.pinned (.plain (OpenSpec.ofChange rationalFieldSpec)) rationalFieldCard

/-- THE TIED CARD OF 'keyholelaw02.RationalOrder'. -/
def rationalOrderCard : Claim7 := { stood := { row := rationalOrderRow, standIns := [], harness := (true, "aae3487ee815bc20e3025a2fc84304fd0b27132b90ef9797a7264dab0f882081"), looks := true }, kinds := [], alts := [], laidByText := true, laidKinds := [.data, .data, .data, .data, .sentinel, .sentinel, .pinned], laidTests := true, laidLooks := .later }
def RationalOrderCardSaid : Prop := Claim7.holds Tryz.pinned (.plain (OpenSpec.ofChange rationalOrderSpec)) rationalOrderCard

/-- THE TIED CARD OF 'keyholelaw02.RationalFloor'. -/
def rationalFloorCard : Claim7 := { stood := { row := rationalFloorRow, standIns := [], harness := (true, "aae3487ee815bc20e3025a2fc84304fd0b27132b90ef9797a7264dab0f882081"), looks := true }, kinds := [], alts := [], laidByText := true, laidKinds := [.data, .data, .data, .data, .sentinel, .sentinel, .pinned], laidTests := true, laidLooks := .later }
def RationalFloorCardSaid : Prop := Claim7.holds Tryz.pinned (.plain (OpenSpec.ofChange rationalFloorSpec)) rationalFloorCard

/-- THE TIED CARD OF 'keyholelaw02.RationalFrac'. -/
def rationalFracCard : Claim7 := { stood := { row := rationalFracRow, standIns := [], harness := (true, "aae3487ee815bc20e3025a2fc84304fd0b27132b90ef9797a7264dab0f882081"), looks := true }, kinds := [], alts := [], laidByText := true, laidKinds := [.data, .data, .data, .data, .sentinel, .sentinel, .pinned], laidTests := true, laidLooks := .later }
def RationalFracCardSaid : Prop := Claim7.holds Tryz.pinned (.plain (OpenSpec.ofChange rationalFracSpec)) rationalFracCard

/-- THE SECOND FORM's CARD OF 'keyholelaw02.RationalClean'. -/
def rationalCleanUptoCard : Claim7 := { stood := { row := rationalCleanUptoRow, standIns := [], harness := (true, "aae3487ee815bc20e3025a2fc84304fd0b27132b90ef9797a7264dab0f882081"), looks := true }, kinds := [], alts := [], laidByText := true, laidKinds := [.data, .data, .data, .data, .sentinel, .sentinel, .pinned], laidTests := true, laidLooks := .later }
def RationalCleanUptoCardSaid : Prop := Claim7.holds Tryz.pinned (.plain (OpenSpec.upto rationalCleanSpec)) rationalCleanUptoCard

/-- THE SECOND FORM's CARD OF 'keyholelaw02.RationalNew'. -/
def rationalNewUptoCard : Claim7 := { stood := { row := rationalNewUptoRow, standIns := [], harness := (true, "aae3487ee815bc20e3025a2fc84304fd0b27132b90ef9797a7264dab0f882081"), looks := true }, kinds := [], alts := [], laidByText := true, laidKinds := [.data, .data, .data, .data, .sentinel, .sentinel, .pinned], laidTests := true, laidLooks := .later }
def RationalNewUptoCardSaid : Prop := Claim7.holds Tryz.pinned (.plain (OpenSpec.upto rationalNewSpec)) rationalNewUptoCard

/-- THE SECOND FORM's CARD OF 'keyholelaw02.RationalOf'. -/
def rationalOfUptoCard : Claim7 := { stood := { row := rationalOfUptoRow, standIns := [], harness := (true, "aae3487ee815bc20e3025a2fc84304fd0b27132b90ef9797a7264dab0f882081"), looks := true }, kinds := [], alts := [], laidByText := true, laidKinds := [.data, .data, .data, .data, .sentinel, .sentinel, .pinned], laidTests := true, laidLooks := .later }
def RationalOfUptoCardSaid : Prop := Claim7.holds Tryz.pinned (.plain (OpenSpec.upto rationalOfSpec)) rationalOfUptoCard

/-- THE SECOND FORM's CARD OF 'keyholelaw02.RationalArithmetic'. -/
def rationalArithmeticUptoCard : Claim7 := { stood := { row := rationalArithmeticUptoRow, standIns := [], harness := (true, "aae3487ee815bc20e3025a2fc84304fd0b27132b90ef9797a7264dab0f882081"), looks := true }, kinds := [], alts := [], laidByText := true, laidKinds := [.data, .data, .data, .data, .sentinel, .sentinel, .pinned], laidTests := true, laidLooks := .later }
def RationalArithmeticUptoCardSaid : Prop := Claim7.holds Tryz.pinned (.plain (OpenSpec.upto rationalArithmeticSpec)) rationalArithmeticUptoCard

/-- THE SECOND FORM's CARD OF 'keyholelaw02.RationalField'. -/
def rationalFieldUptoCard : Claim7 := { stood := { row := rationalFieldUptoRow, standIns := [], harness := (true, "aae3487ee815bc20e3025a2fc84304fd0b27132b90ef9797a7264dab0f882081"), looks := true }, kinds := [], alts := [], laidByText := true, laidKinds := [.data, .data, .data, .data, .sentinel, .sentinel, .pinned], laidTests := true, laidLooks := .later }
def RationalFieldUptoCardSaid : Prop := Claim7.holds Tryz.pinned (.plain (OpenSpec.upto rationalFieldSpec)) rationalFieldUptoCard

/-- THE SECOND FORM's CARD OF 'keyholelaw02.RationalOrder'. -/
def rationalOrderUptoCard : Claim7 := { stood := { row := rationalOrderUptoRow, standIns := [], harness := (true, "aae3487ee815bc20e3025a2fc84304fd0b27132b90ef9797a7264dab0f882081"), looks := true }, kinds := [], alts := [], laidByText := true, laidKinds := [.data, .data, .data, .data, .sentinel, .sentinel, .pinned], laidTests := true, laidLooks := .later }
def RationalOrderUptoCardSaid : Prop := Claim7.holds Tryz.pinned (.plain (OpenSpec.upto rationalOrderSpec)) rationalOrderUptoCard

/-- THE SECOND FORM's CARD OF 'keyholelaw02.RationalFloor'. -/
def rationalFloorUptoCard : Claim7 := { stood := { row := rationalFloorUptoRow, standIns := [], harness := (true, "aae3487ee815bc20e3025a2fc84304fd0b27132b90ef9797a7264dab0f882081"), looks := true }, kinds := [], alts := [], laidByText := true, laidKinds := [.data, .data, .data, .data, .sentinel, .sentinel, .pinned], laidTests := true, laidLooks := .later }
def RationalFloorUptoCardSaid : Prop := Claim7.holds Tryz.pinned (.plain (OpenSpec.upto rationalFloorSpec)) rationalFloorUptoCard

/-- THE SECOND FORM's CARD OF 'keyholelaw02.RationalFrac'. -/
def rationalFracUptoCard : Claim7 := { stood := { row := rationalFracUptoRow, standIns := [], harness := (true, "aae3487ee815bc20e3025a2fc84304fd0b27132b90ef9797a7264dab0f882081"), looks := true }, kinds := [], alts := [], laidByText := true, laidKinds := [.data, .data, .data, .data, .sentinel, .sentinel, .pinned], laidTests := true, laidLooks := .later }
def RationalFracUptoCardSaid : Prop := Claim7.holds Tryz.pinned (.plain (OpenSpec.upto rationalFracSpec)) rationalFracUptoCard
end Rows
end Go.Proofs.YtpfaddgcfacgdaaGreatDoor
