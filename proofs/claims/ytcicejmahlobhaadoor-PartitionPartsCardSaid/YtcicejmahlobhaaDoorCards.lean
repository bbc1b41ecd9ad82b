/-
  DERIVED. GIVEN WITH THE SEED: THE CARDS: each row of YtcicejmahlobhaaDoorRows.lean that lists a variable, with what it lists TIED to the program's text (the seventh form; the later family's looks); each row that meets fmt, with fmt's text TOLD by the authors' own Lean function (tested against real Go, not proved from fmt's source: count such statements apart). THE CARD IS WHAT COUNTS. Prove the row's statement (the work); the ties are given (YtcicejmahlobhaaDoorTie.lean); close each card by the builder's one call (the guide's Derived/Test/ToyasCard.lean, 'card_holds'). Laid BY PROGRAM, IN A SANDBOX (cutbox-door.mjs). By AI agents, Wed Nov 11 2026. No macro, syntax, notation, axiom, sorry.
-/
import Derived.Test.YtcicejmahlobhaaDoorRows
import GoSem.ClaimSeven
namespace Go.Proofs.YtcicejmahlobhaaDoor
namespace Rows

/-- THE TIED CARD OF 'keyholelaw03.BitsetTexts'. -/
def bitsetTextsCard : Claim7 := { stood := { row := bitsetTextsRow, standIns := [], harness := (true, "6b739bd2db59308658335ce2a5a53384d608d7f603bdcbbe65dd385f720a072f"), looks := true }, kinds := [], alts := [], laidByText := true, laidKinds := [.data, .data, .data, .sentinel, .sentinel], laidTests := true, laidLooks := .later }
def BitsetTextsCardSaid : Prop := Claim7.holds Tryd.pinned (.plain (OpenSpec.ofChange bitsetTextsSpec)) bitsetTextsCard

/-- THE TIED CARD OF 'keyholelaw04.PartitionSets'. -/
def partitionSetsCard : Claim7 := { stood := { row := partitionSetsRow, standIns := [], harness := (true, "6b739bd2db59308658335ce2a5a53384d608d7f603bdcbbe65dd385f720a072f"), looks := true }, kinds := [], alts := [], laidByText := true, laidKinds := [.data], laidTests := true, laidLooks := .later }
def PartitionSetsCardSaid : Prop := Claim7.holds Tryd.pinned (.plain (OpenSpec.ofChange partitionSetsSpec)) partitionSetsCard

/-- THE TIED CARD OF 'keyholelaw04.PartitionParts'. -/
def partitionPartsCard : Claim7 := { stood := { row := partitionPartsRow, standIns := [], harness := (true, "6b739bd2db59308658335ce2a5a53384d608d7f603bdcbbe65dd385f720a072f"), looks := true }, kinds := [], alts := [], laidByText := true, laidKinds := [.data], laidTests := true, laidLooks := .later }
def PartitionPartsCardSaid : Prop := Claim7.holds Tryd.pinned (.plain (OpenSpec.ofChange partitionPartsSpec)) partitionPartsCard

/-- THE SECOND FORM's CARD OF 'keyholelaw03.BitsetTexts'. -/
def bitsetTextsUptoCard : Claim7 := { stood := { row := bitsetTextsUptoRow, standIns := [], harness := (true, "6b739bd2db59308658335ce2a5a53384d608d7f603bdcbbe65dd385f720a072f"), looks := true }, kinds := [], alts := [], laidByText := true, laidKinds := [.data, .data, .data, .sentinel, .sentinel], laidTests := true, laidLooks := .later }
def BitsetTextsUptoCardSaid : Prop := Claim7.holds Tryd.pinned (.plain (OpenSpec.upto bitsetTextsSpec)) bitsetTextsUptoCard

/-- THE SECOND FORM's CARD OF 'keyholelaw04.PartitionSets'. -/
def partitionSetsUptoCard : Claim7 := { stood := { row := partitionSetsUptoRow, standIns := [], harness := (true, "6b739bd2db59308658335ce2a5a53384d608d7f603bdcbbe65dd385f720a072f"), looks := true }, kinds := [], alts := [], laidByText := true, laidKinds := [.data], laidTests := true, laidLooks := .later }
def PartitionSetsUptoCardSaid : Prop := Claim7.holds Tryd.pinned (.plain (OpenSpec.upto partitionSetsSpec)) partitionSetsUptoCard

/-- THE SECOND FORM's CARD OF 'keyholelaw04.PartitionParts'. -/
def partitionPartsUptoCard : Claim7 := { stood := { row := partitionPartsUptoRow, standIns := [], harness := (true, "6b739bd2db59308658335ce2a5a53384d608d7f603bdcbbe65dd385f720a072f"), looks := true }, kinds := [], alts := [], laidByText := true, laidKinds := [.data], laidTests := true, laidLooks := .later }
def PartitionPartsUptoCardSaid : Prop := Claim7.holds Tryd.pinned (.plain (OpenSpec.upto partitionPartsSpec)) partitionPartsUptoCard
end Rows
end Go.Proofs.YtcicejmahlobhaaDoor
