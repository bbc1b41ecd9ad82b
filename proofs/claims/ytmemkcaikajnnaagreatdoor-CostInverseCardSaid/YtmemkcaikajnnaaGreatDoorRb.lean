/- Walks: the reference's check of an expression, its parts. -/
import Derived.Test.YtmemkcaikajnnaaGreatDoorRa
import Derived.Test.YtmemkcaikajnnaaGreatDoorIsr
namespace Go.Proofs.YtmemkcaikajnnaaGreatDoor
open Go.RowKit Go.Sort
set_option linter.unusedVariables false

theorem rplaceH_is {l : List E} {k : E} (h : E.Is l 0 k) : E.rplaceH l = k.rplace := by
  obtain ⟨h1, h2⟩ := h.eq
  cases l with
  | nil => exact absurd h1 (by simp)
  | cons a l => simp only [List.getElem_cons_zero] at h2; subst h2; simp [E.rplaceH]
end Go.Proofs.YtmemkcaikajnnaaGreatDoor
