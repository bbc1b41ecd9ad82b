/- Walks: the reference's check of an expression. -/
import Derived.Test.YtmemkcaikajnnaaGreatDoorRb
namespace Go.Proofs.YtmemkcaikajnnaaGreatDoor
open Go.RowKit Go.Sort
set_option linter.unusedVariables false

theorem nm_empty {s : ByteArray} (h : s.size = 0) : s.toList.isEmpty = true ∧ s = ⟨#[]⟩ := by
  have : s = ⟨#[]⟩ := empty_bs h
  subst this
  exact ⟨by rw [bs_toList]; rfl, rfl⟩
theorem nm_full {s : ByteArray} (h : s.size ≠ 0) : s.toList.isEmpty = false ∧ s.toList ≠ [] ∧ s ≠ ⟨#[]⟩ := by
  have h1 : s.toList ≠ [] := by
    intro hh
    rw [bs_toList] at hh
    have := congrArg List.length hh
    rw [bs_length] at this
    exact h this
  refine ⟨by simpa using h1, h1, ?_⟩
  rintro rfl; exact h rfl
end Go.Proofs.YtmemkcaikajnnaaGreatDoor
