/-
  DERIVED. GIVEN WITH THE SEED: THE CARDS: each row of YtlpnbcdnlbghdaaDoorRows.lean that lists a variable, with what it lists TIED to the program's text (the seventh form; the later family's looks); each row that meets fmt, with fmt's text TOLD by the authors' own Lean function (tested against real Go, not proved from fmt's source: count such statements apart). THE CARD IS WHAT COUNTS. Prove the row's statement (the work); the ties are given (YtlpnbcdnlbghdaaDoorTie.lean); close each card by the builder's one call (the guide's Derived/Test/ToyasCard.lean, 'card_holds'). Laid BY PROGRAM, IN A SANDBOX (cutbox-door.mjs). By AI agents, Wed Nov 11 2026. No macro, syntax, notation, axiom, sorry.
-/
import Derived.Test.YtlpnbcdnlbghdaaDoorRows
import GoSem.ClaimSeven
namespace Go.Proofs.YtlpnbcdnlbghdaaDoor
namespace Rows

/-- THE TIED CARD OF 'keyholelaw12.TypesProducts'. -/
def typesProductsCard : Claim7 := { stood := { row := typesProductsRow, standIns := [], harness := (true, "559d913f1bca88b992afd00cf73c3871f9da007e67120decd73c2b4d48acbf17"), looks := true }, kinds := [], alts := [], laidByText := true, laidKinds := [.data, .data, .data, .data, .listed, .data, .data, .data, .data, .data, .pinned], laidTests := true, laidLooks := .later }
def TypesProductsCardSaid : Prop := Claim7.holds Tryd.pinned (.plain (OpenSpec.ofChange typesProductsSpec)) typesProductsCard

/-- THE SECOND FORM's CARD OF 'keyholelaw12.TypesProducts'. -/
def typesProductsUptoCard : Claim7 := { stood := { row := typesProductsUptoRow, standIns := [], harness := (true, "559d913f1bca88b992afd00cf73c3871f9da007e67120decd73c2b4d48acbf17"), looks := true }, kinds := [], alts := [], laidByText := true, laidKinds := [.data, .data, .data, .data, .listed, .data, .data, .data, .data, .data, .pinned], laidTests := true, laidLooks := .later }
def TypesProductsUptoCardSaid : Prop := Claim7.holds Tryd.pinned (.plain (OpenSpec.upto typesProductsSpec)) typesProductsUptoCard
end Rows
end Go.Proofs.YtlpnbcdnlbghdaaDoor
