/- An argument that is a list of truth values. -/
import Derived.Test.YtdbboeknknlolaaLawRow2
import Derived.Test.YtdbboeknknlolaaWk
import Derived.Deep.Grids
namespace Go.Proofs.Ytdbboeknknlolaa
open Go.ChangeShapes Go.WideShapes Go.ChangeAt Go.RowKit
set_option linter.unusedVariables false
section
variable {H : Type} {enc : TypeId × Value → H}
theorem cellsBool : Try.prog.cellsOf 4 = 1 := by kernel_rfl
set_option maxRecDepth 100000 in
/-- an argument that is a list of truth values -/
theorem open_bs {W : World} {base : Nat} {v : Value} {d : DataW H} {p : List MemPlace} (hv : Value.okWide Try.prog W .any base 39 v) (h : DataW.Trod enc Try.prog W 0 (fun _ => true) true 39 v d p) :
    ∃ A bs c, v = .slice A (List.length bs) c ∧ Row W W.heap.size A (bvals bs) := by
  obtain ⟨a0, len0, cap0, rfl⟩ := okWide_slice Try.underlying39 hv
  obtain ⟨fuel, hf⟩ := h
  rcases Go.Deep.open_bools Try.underlying39 Try.underlying4 cellsBool hf with ⟨e1, _⟩ | ⟨a, len, cap, B, e1, _, hl, _, _, hc⟩
  · simp [Value.cells] at e1
    obtain ⟨rfl, rfl, rfl⟩ := e1
    exact ⟨none, [], 0, rfl, Row.nil _ _ _⟩
  · simp [Value.cells] at e1
    obtain ⟨rfl, rfl, rfl⟩ := e1
    have hbl : ((List.range len0).map B).length = len0 := by simp
    refine ⟨some a, (List.range len0).map B, cap0, by rw [hbl], ⟨fun hp => ?_⟩⟩
    have hp' : 0 < len0 := by simpa [bvals] using hp
    obtain ⟨b, off, rfl⟩ := plain_at (hc 0 (by omega))
    refine ⟨b, off, rfl, by have := World.block_lt_of_cell? W _ (hc 0 (by omega)); rwa [Go.WideShapes.add_plain] at this, fun k u hu => ?_⟩
    have hk : k < len0 := by
      have := (List.getElem?_eq_some_iff.1 hu).1
      simpa [bvals] using this
    have h9 := hc k (by omega)
    rw [Go.WideShapes.add_plain] at h9
    rw [h9, ← hu]
    unfold bvals
    rw [List.getElem?_map, List.getElem?_map, List.getElem?_range hk]; rfl
end
end Go.Proofs.Ytdbboeknknlolaa
