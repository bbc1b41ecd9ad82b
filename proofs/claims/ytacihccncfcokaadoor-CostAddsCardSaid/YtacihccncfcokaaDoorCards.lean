/-
  DERIVED. GIVEN WITH THE SEED: THE CARDS: each row of YtacihccncfcokaaDoorRows.lean that lists a variable, with what it lists TIED to the program's text (the seventh form; the later family's looks); each row that meets fmt, with fmt's text TOLD by the authors' own Lean function (tested against real Go, not proved from fmt's source: count such statements apart). THE CARD IS WHAT COUNTS. Prove the row's statement (the work); the ties are given (YtacihccncfcokaaDoorTie.lean); close each card by the builder's one call (the guide's Derived/Test/ToyasCard.lean, 'card_holds'). Laid BY PROGRAM, IN A SANDBOX (cutbox-door.mjs). By AI agents, Wed Nov 11 2026. No macro, syntax, notation, axiom, sorry.
-/
import Derived.Test.YtacihccncfcokaaDoorRows
import GoSem.ClaimSeven
namespace Go.Proofs.YtacihccncfcokaaDoor
namespace Rows

/-- THE TIED CARD OF 'keyholelaw15.CostChecks'. -/
def costChecksCard : Claim7 := { stood := { row := costChecksRow, standIns := [], harness := (true, "b9482785f5005867ac5084aa3ef2c8d41a3e75c40d20aec6fd7328432523fa2a"), looks := true }, kinds := [], alts := [], laidByText := true, laidKinds := [.data, .listed, .data, .data, .data, .data, .data, .pinned], laidTests := true, laidLooks := .later }
def CostChecksCardSaid : Prop := Claim7.holds Tryd.pinned (.plain (OpenSpec.ofChange costChecksSpec)) costChecksCard

/-- THE TIED CARD OF 'keyholelaw15.CostExprs'. -/
def costExprsCard : Claim7 := { stood := { row := costExprsRow, standIns := [], harness := (true, "b9482785f5005867ac5084aa3ef2c8d41a3e75c40d20aec6fd7328432523fa2a"), looks := true }, kinds := [], alts := [], laidByText := true, laidKinds := [.data, .listed, .data, .data, .data, .data, .data, .pinned], laidTests := true, laidLooks := .later }
def CostExprsCardSaid : Prop := Claim7.holds Tryd.pinned (.plain (OpenSpec.ofChange costExprsSpec)) costExprsCard

/-- THE TIED CARD OF 'keyholelaw15.CostCalls'. -/
def costCallsCard : Claim7 := { stood := { row := costCallsRow, standIns := [], harness := (true, "b9482785f5005867ac5084aa3ef2c8d41a3e75c40d20aec6fd7328432523fa2a"), looks := true }, kinds := [], alts := [], laidByText := true, laidKinds := [.data, .listed, .data, .data, .data, .data, .data, .pinned], laidTests := true, laidLooks := .later }
def CostCallsCardSaid : Prop := Claim7.holds Tryd.pinned (.plain (OpenSpec.ofChange costCallsSpec)) costCallsCard

/-- THE TIED CARD OF 'keyholelaw15.CostAdds'. -/
def costAddsCard : Claim7 := { stood := { row := costAddsRow, standIns := [], harness := (true, "b9482785f5005867ac5084aa3ef2c8d41a3e75c40d20aec6fd7328432523fa2a"), looks := true }, kinds := [], alts := [], laidByText := true, laidKinds := [.data, .listed, .data, .data, .data, .data, .data, .pinned], laidTests := true, laidLooks := .later }
def CostAddsCardSaid : Prop := Claim7.holds Tryd.pinned (.plain (OpenSpec.ofChange costAddsSpec)) costAddsCard

/-- THE TIED CARD OF 'keyholelaw15.CostParts'. -/
def costPartsCard : Claim7 := { stood := { row := costPartsRow, standIns := [], harness := (true, "b9482785f5005867ac5084aa3ef2c8d41a3e75c40d20aec6fd7328432523fa2a"), looks := true }, kinds := [], alts := [], laidByText := true, laidKinds := [.data, .listed, .data, .data, .data, .data, .data, .pinned], laidTests := true, laidLooks := .later }
def CostPartsCardSaid : Prop := Claim7.holds Tryd.pinned (.plain (OpenSpec.ofChange costPartsSpec)) costPartsCard

/-- THE SECOND FORM's CARD OF 'keyholelaw15.CostChecks'. -/
def costChecksUptoCard : Claim7 := { stood := { row := costChecksUptoRow, standIns := [], harness := (true, "b9482785f5005867ac5084aa3ef2c8d41a3e75c40d20aec6fd7328432523fa2a"), looks := true }, kinds := [], alts := [], laidByText := true, laidKinds := [.data, .listed, .data, .data, .data, .data, .data, .pinned], laidTests := true, laidLooks := .later }
def CostChecksUptoCardSaid : Prop := Claim7.holds Tryd.pinned (.plain (OpenSpec.upto costChecksSpec)) costChecksUptoCard

/-- THE SECOND FORM's CARD OF 'keyholelaw15.CostExprs'. -/
def costExprsUptoCard : Claim7 := { stood := { row := costExprsUptoRow, standIns := [], harness := (true, "b9482785f5005867ac5084aa3ef2c8d41a3e75c40d20aec6fd7328432523fa2a"), looks := true }, kinds := [], alts := [], laidByText := true, laidKinds := [.data, .listed, .data, .data, .data, .data, .data, .pinned], laidTests := true, laidLooks := .later }
def CostExprsUptoCardSaid : Prop := Claim7.holds Tryd.pinned (.plain (OpenSpec.upto costExprsSpec)) costExprsUptoCard

/-- THE SECOND FORM's CARD OF 'keyholelaw15.CostCalls'. -/
def costCallsUptoCard : Claim7 := { stood := { row := costCallsUptoRow, standIns := [], harness := (true, "b9482785f5005867ac5084aa3ef2c8d41a3e75c40d20aec6fd7328432523fa2a"), looks := true }, kinds := [], alts := [], laidByText := true, laidKinds := [.data, .listed, .data, .data, .data, .data, .data, .pinned], laidTests := true, laidLooks := .later }
def CostCallsUptoCardSaid : Prop := Claim7.holds Tryd.pinned (.plain (OpenSpec.upto costCallsSpec)) costCallsUptoCard

/-- THE SECOND FORM's CARD OF 'keyholelaw15.CostAdds'. -/
def costAddsUptoCard : Claim7 := { stood := { row := costAddsUptoRow, standIns := [], harness := (true, "b9482785f5005867ac5084aa3ef2c8d41a3e75c40d20aec6fd7328432523fa2a"), looks := true }, kinds := [], alts := [], laidByText := true, laidKinds := [.data, .listed, .data, .data, .data, .data, .data, .pinned], laidTests := true, laidLooks := .later }
def CostAddsUptoCardSaid : Prop := Claim7.holds Tryd.pinned (.plain (OpenSpec.upto costAddsSpec)) costAddsUptoCard

/-- THE SECOND FORM's CARD OF 'keyholelaw15.CostParts'. -/
def costPartsUptoCard : Claim7 := { stood := { row := costPartsUptoRow, standIns := [], harness := (true, "b9482785f5005867ac5084aa3ef2c8d41a3e75c40d20aec6fd7328432523fa2a"), looks := true }, kinds := [], alts := [], laidByText := true, laidKinds := [.data, .listed, .data, .data, .data, .data, .data, .pinned], laidTests := true, laidLooks := .later }
def CostPartsUptoCardSaid : Prop := Claim7.holds Tryd.pinned (.plain (OpenSpec.upto costPartsSpec)) costPartsUptoCard
end Rows
end Go.Proofs.YtacihccncfcokaaDoor
