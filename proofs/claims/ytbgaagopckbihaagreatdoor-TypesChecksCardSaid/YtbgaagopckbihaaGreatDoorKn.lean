/- Walk: known() of the laws of types. -/
import Derived.Test.YtbgaagopckbihaaGreatDoorKl
import Derived.Test.YtbgaagopckbihaaGreatDoorXp
namespace Go.Proofs.YtbgaagopckbihaaGreatDoor
open Go.RowKit Go.Sort
set_option linter.unusedVariables false

namespace Kw
def bit : ByteArray := ⟨#[98, 105, 116]⟩
def pair : ByteArray := ⟨#[112, 97, 105, 114]⟩
abbrev tBit : G := .mk 4 0 0 0 ⟨#[98, 105, 116]⟩ none 0 [] none 0 []
abbrev tInt : G := .mk 1 1 3 0 ⟨#[]⟩ none 0 [] none 0 []
abbrev tRec (B : Nat) : G := .mk 3 0 0 0 ⟨#[]⟩ (some ⟨B, 0, none⟩) 2 [⟨#[97]⟩, ⟨#[98]⟩] (some ⟨B + 1, 0, none⟩) 2 [tBit, tInt]
abbrev d0 : Dc := ⟨0, ⟨#[98, 105, 116]⟩, G.zero, 0, 0, 0, ⟨#[]⟩, none, 0, 0, none, 0, 0, none, 0, 0, none, 0, 0⟩
abbrev d1 (B : Nat) : Dc := ⟨0, ⟨#[112, 97, 105, 114]⟩, tRec B, 0, 0, 0, ⟨#[]⟩, none, 0, 0, none, 0, 0, none, 0, 0, none, 0, 0⟩
abbrev tPair : G := .mk 4 0 0 0 ⟨#[112, 97, 105, 114]⟩ none 0 [] none 0 []
abbrev tArr (B : Nat) : G := .mk 2 0 0 2 ⟨#[]⟩ none 0 [] (some ⟨B + 3, 0, none⟩) 1 [tPair]
/-- what is expanded -/
def X : G := .mk 2 0 0 2 ⟨#[]⟩ none 0 [] none 0 [.mk 3 0 0 0 ⟨#[]⟩ none 0 [⟨#[97]⟩, ⟨#[98]⟩] none 0 [.mk 0 0 0 0 ⟨#[]⟩ none 0 [] none 0 [], .mk 1 1 3 0 ⟨#[]⟩ none 0 [] none 0 []]]
def S : List Sl := [⟨⟨#[46, 48, 46, 97]⟩, true, 0, 1⟩, ⟨⟨#[46, 48, 46, 98]⟩, false, 1, 3⟩, ⟨⟨#[46, 49, 46, 97]⟩, true, 0, 1⟩, ⟨⟨#[46, 49, 46, 98]⟩, false, 1, 3⟩]
set_option maxRecDepth 100000 in
theorem exp_eq (B : Nat) : G.expD nmB [d0, d1 B] (tArr B) = (X, 0) := by kernel_rfl
set_option maxRecDepth 100000 in
theorem scal_eq : G.scalR nmB X = (S, 0) := by kernel_rfl
set_option maxRecDepth 100000 in
theorem val_eq : G.valR nmB X = (36, 0) := by kernel_rfl
theorem cl_eq : clR (S, 0) [5, 0, -1, 2] = ([1, 1, 0, 2], 0) := by kernel_rfl
theorem con_eq : conB (S, 0) [1, 1, 0, 2] = true := by kernel_rfl
set_option maxRecDepth 100000 in
theorem chk_eq : G.chkT nmB tPair = 7 := by kernel_rfl
end Kw
theorem G.scalR_bare (e : G) : G.scalR nmB e.bare = G.scalR nmB e := by unfold G.scalR; rw [G.chkT_bare, G.scal_bare]
theorem G.valR_bare (e : G) : G.valR nmB e.bare = G.valR nmB e := by unfold G.valR; rw [G.scalR_bare]
end Go.Proofs.YtbgaagopckbihaaGreatDoor
