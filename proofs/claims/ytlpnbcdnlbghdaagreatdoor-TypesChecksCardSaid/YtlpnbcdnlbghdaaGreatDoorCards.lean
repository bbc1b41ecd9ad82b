/-
  DERIVED. GIVEN WITH THE SEED: THE CARDS: each row of YtlpnbcdnlbghdaaGreatDoorRows.lean that lists a variable, with what it lists TIED to the program's text (the seventh form; the later family's looks); each row that meets fmt, with fmt's text TOLD by the authors' own Lean function (tested against real Go, not proved from fmt's source: count such statements apart). THE CARD IS WHAT COUNTS. Prove the row's statement (the work); the ties are given (YtlpnbcdnlbghdaaGreatDoorTie.lean); close each card by the builder's one call (the guide's Derived/Test/ToyasCard.lean, 'card_holds'). Laid BY PROGRAM, IN A SANDBOX (cutbox-door.mjs). By AI agents, Wed Nov 11 2026. No macro, syntax, notation, axiom, sorry.
-/
import Derived.Test.YtlpnbcdnlbghdaaGreatDoorRows
import GoSem.ClaimSeven
namespace Go.Proofs.YtlpnbcdnlbghdaaGreatDoor
namespace Rows

/-- THE TIED CARD OF 'keyholelaw12.TypesChecks'. -/
def typesChecksCard : Claim7 := { stood := { row := typesChecksRow, standIns := [], harness := (true, "3ac8328e413f428d24e499378dacc38b4926368ccda416da651ec89a39663b1d"), looks := true }, kinds := [], alts := [], laidByText := true, laidKinds := [.data, .data, .data, .data, .listed, .data, .data, .data, .data, .data, .pinned], laidTests := true, laidLooks := .later }
def TypesChecksCardSaid : Prop := Claim7.holds Tryz.pinned (.plain (OpenSpec.ofChange typesChecksSpec)) typesChecksCard

/-- THE TIED CARD OF 'keyholelaw12.TypesExpands'. -/
def typesExpandsCard : Claim7 := { stood := { row := typesExpandsRow, standIns := [], harness := (true, "3ac8328e413f428d24e499378dacc38b4926368ccda416da651ec89a39663b1d"), looks := true }, kinds := [], alts := [], laidByText := true, laidKinds := [.data, .data, .data, .data, .listed, .data, .data, .data, .data, .data, .pinned], laidTests := true, laidLooks := .later }
def TypesExpandsCardSaid : Prop := Claim7.holds Tryz.pinned (.plain (OpenSpec.ofChange typesExpandsSpec)) typesExpandsCard

/-- THE TIED CARD OF 'keyholelaw12.TypesExpanded'. -/
def typesExpandedCard : Claim7 := { stood := { row := typesExpandedRow, standIns := [], harness := (true, "3ac8328e413f428d24e499378dacc38b4926368ccda416da651ec89a39663b1d"), looks := true }, kinds := [], alts := [], laidByText := true, laidKinds := [.data, .data, .data, .data, .listed, .data, .data, .data, .data, .data, .pinned], laidTests := true, laidLooks := .later }
def TypesExpandedCardSaid : Prop := Claim7.holds Tryz.pinned (.plain (OpenSpec.ofChange typesExpandedSpec)) typesExpandedCard

/-- THE TIED CARD OF 'keyholelaw12.TypesScalars'. -/
def typesScalarsCard : Claim7 := { stood := { row := typesScalarsRow, standIns := [], harness := (true, "3ac8328e413f428d24e499378dacc38b4926368ccda416da651ec89a39663b1d"), looks := true }, kinds := [], alts := [], laidByText := true, laidKinds := [.data, .data, .data, .data, .listed, .data, .data, .data, .data, .data, .pinned], laidTests := true, laidLooks := .later }
def TypesScalarsCardSaid : Prop := Claim7.holds Tryz.pinned (.plain (OpenSpec.ofChange typesScalarsSpec)) typesScalarsCard

/-- THE TIED CARD OF 'keyholelaw12.TypesFinds'. -/
def typesFindsCard : Claim7 := { stood := { row := typesFindsRow, standIns := [], harness := (true, "3ac8328e413f428d24e499378dacc38b4926368ccda416da651ec89a39663b1d"), looks := true }, kinds := [], alts := [], laidByText := true, laidKinds := [.data, .data, .data, .data, .listed, .data, .data, .data, .data, .data, .pinned], laidTests := true, laidLooks := .later }
def TypesFindsCardSaid : Prop := Claim7.holds Tryz.pinned (.plain (OpenSpec.ofChange typesFindsSpec)) typesFindsCard

/-- THE TIED CARD OF 'keyholelaw12.TypesParts'. -/
def typesPartsCard : Claim7 := { stood := { row := typesPartsRow, standIns := [], harness := (true, "3ac8328e413f428d24e499378dacc38b4926368ccda416da651ec89a39663b1d"), looks := true }, kinds := [], alts := [], laidByText := true, laidKinds := [.data, .data, .data, .data, .listed, .data, .data, .data, .data, .data, .pinned], laidTests := true, laidLooks := .later }
def TypesPartsCardSaid : Prop := Claim7.holds Tryz.pinned (.plain (OpenSpec.ofChange typesPartsSpec)) typesPartsCard

/-- THE TIED CARD OF 'keyholelaw12.TypesClamps'. -/
def typesClampsCard : Claim7 := { stood := { row := typesClampsRow, standIns := [], harness := (true, "3ac8328e413f428d24e499378dacc38b4926368ccda416da651ec89a39663b1d"), looks := true }, kinds := [], alts := [], laidByText := true, laidKinds := [.data, .data, .data, .data, .listed, .data, .data, .data, .data, .data, .pinned], laidTests := true, laidLooks := .later }
def TypesClampsCardSaid : Prop := Claim7.holds Tryz.pinned (.plain (OpenSpec.ofChange typesClampsSpec)) typesClampsCard

/-- THE SECOND FORM's CARD OF 'keyholelaw12.TypesChecks'. -/
def typesChecksUptoCard : Claim7 := { stood := { row := typesChecksUptoRow, standIns := [], harness := (true, "3ac8328e413f428d24e499378dacc38b4926368ccda416da651ec89a39663b1d"), looks := true }, kinds := [], alts := [], laidByText := true, laidKinds := [.data, .data, .data, .data, .listed, .data, .data, .data, .data, .data, .pinned], laidTests := true, laidLooks := .later }
def TypesChecksUptoCardSaid : Prop := Claim7.holds Tryz.pinned (.plain (OpenSpec.upto typesChecksSpec)) typesChecksUptoCard

/-- THE SECOND FORM's CARD OF 'keyholelaw12.TypesExpands'. -/
def typesExpandsUptoCard : Claim7 := { stood := { row := typesExpandsUptoRow, standIns := [], harness := (true, "3ac8328e413f428d24e499378dacc38b4926368ccda416da651ec89a39663b1d"), looks := true }, kinds := [], alts := [], laidByText := true, laidKinds := [.data, .data, .data, .data, .listed, .data, .data, .data, .data, .data, .pinned], laidTests := true, laidLooks := .later }
def TypesExpandsUptoCardSaid : Prop := Claim7.holds Tryz.pinned (.plain (OpenSpec.upto typesExpandsSpec)) typesExpandsUptoCard

/-- THE SECOND FORM's CARD OF 'keyholelaw12.TypesExpanded'. -/
def typesExpandedUptoCard : Claim7 := { stood := { row := typesExpandedUptoRow, standIns := [], harness := (true, "3ac8328e413f428d24e499378dacc38b4926368ccda416da651ec89a39663b1d"), looks := true }, kinds := [], alts := [], laidByText := true, laidKinds := [.data, .data, .data, .data, .listed, .data, .data, .data, .data, .data, .pinned], laidTests := true, laidLooks := .later }
def TypesExpandedUptoCardSaid : Prop := Claim7.holds Tryz.pinned (.plain (OpenSpec.upto typesExpandedSpec)) typesExpandedUptoCard

/-- THE SECOND FORM's CARD OF 'keyholelaw12.TypesScalars'. -/
def typesScalarsUptoCard : Claim7 := { stood := { row := typesScalarsUptoRow, standIns := [], harness := (true, "3ac8328e413f428d24e499378dacc38b4926368ccda416da651ec89a39663b1d"), looks := true }, kinds := [], alts := [], laidByText := true, laidKinds := [.data, .data, .data, .data, .listed, .data, .data, .data, .data, .data, .pinned], laidTests := true, laidLooks := .later }
def TypesScalarsUptoCardSaid : Prop := Claim7.holds Tryz.pinned (.plain (OpenSpec.upto typesScalarsSpec)) typesScalarsUptoCard

/-- THE SECOND FORM's CARD OF 'keyholelaw12.TypesFinds'. -/
def typesFindsUptoCard : Claim7 := { stood := { row := typesFindsUptoRow, standIns := [], harness := (true, "3ac8328e413f428d24e499378dacc38b4926368ccda416da651ec89a39663b1d"), looks := true }, kinds := [], alts := [], laidByText := true, laidKinds := [.data, .data, .data, .data, .listed, .data, .data, .data, .data, .data, .pinned], laidTests := true, laidLooks := .later }
def TypesFindsUptoCardSaid : Prop := Claim7.holds Tryz.pinned (.plain (OpenSpec.upto typesFindsSpec)) typesFindsUptoCard

/-- THE SECOND FORM's CARD OF 'keyholelaw12.TypesParts'. -/
def typesPartsUptoCard : Claim7 := { stood := { row := typesPartsUptoRow, standIns := [], harness := (true, "3ac8328e413f428d24e499378dacc38b4926368ccda416da651ec89a39663b1d"), looks := true }, kinds := [], alts := [], laidByText := true, laidKinds := [.data, .data, .data, .data, .listed, .data, .data, .data, .data, .data, .pinned], laidTests := true, laidLooks := .later }
def TypesPartsUptoCardSaid : Prop := Claim7.holds Tryz.pinned (.plain (OpenSpec.upto typesPartsSpec)) typesPartsUptoCard

/-- THE SECOND FORM's CARD OF 'keyholelaw12.TypesClamps'. -/
def typesClampsUptoCard : Claim7 := { stood := { row := typesClampsUptoRow, standIns := [], harness := (true, "3ac8328e413f428d24e499378dacc38b4926368ccda416da651ec89a39663b1d"), looks := true }, kinds := [], alts := [], laidByText := true, laidKinds := [.data, .data, .data, .data, .listed, .data, .data, .data, .data, .data, .pinned], laidTests := true, laidLooks := .later }
def TypesClampsUptoCardSaid : Prop := Claim7.holds Tryz.pinned (.plain (OpenSpec.upto typesClampsSpec)) typesClampsUptoCard
end Rows
end Go.Proofs.YtlpnbcdnlbghdaaGreatDoor
