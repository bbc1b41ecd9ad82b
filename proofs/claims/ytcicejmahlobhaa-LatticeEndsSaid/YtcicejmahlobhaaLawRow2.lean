/- A list of numbers as an argument. -/
import Derived.Test.YtcicejmahlobhaaLawRow
namespace Go.Proofs.Ytcicejmahlobhaa
open Go.ChangeShapes Go.WideShapes Go.ChangeAt Go.RowKit
set_option linter.unusedVariables false
section
variable {H : Type} {enc : TypeId × Value → H}
set_option maxRecDepth 100000 in
/-- an argument that is a list of numbers -/
theorem open_zs {W : World} {base : Nat} {v : Value} {d : DataW H} {p : List MemPlace} (hv : Value.okWide Try.prog W .any base 53 v) (h : DataW.Trod enc Try.prog W 0 (fun _ => true) true 53 v d p) :
    ∃ A zs c, v = .slice A zs.length c ∧ Ints W W.heap.size A zs := by
  obtain ⟨a0, len0, cap0, rfl⟩ := okWide_slice Try.underlying53 hv
  obtain ⟨fuel, hf⟩ := h
  rcases open_ints Try.underlying53 Try.underlying3 cellsInt hf with ⟨e1, _⟩ | ⟨ad, len, cap, zs, e1, _, hl, _, hz, _, hc, hw⟩
  · simp [Value.cells] at e1
    obtain ⟨rfl, rfl, rfl⟩ := e1
    exact ⟨none, [], 0, rfl, ⟨Row.nil _ _ _, fun x hx => by cases hx⟩⟩
  · simp [Value.cells] at e1
    obtain ⟨rfl, rfl, rfl⟩ := e1
    have hzl : zs.length = cap0 := by simpa using hz
    refine ⟨some ad, zs.take len0, cap0, by rw [List.length_take, Nat.min_eq_left (by omega)], ⟨⟨fun hp => ?_⟩, fun x hx => ?_⟩⟩
    · have hp' : 0 < len0 := by
        rw [List.length_map, List.length_take] at hp; omega
      obtain ⟨b, off, rfl, hc'⟩ := ints_at hc (by omega)
      refine ⟨b, off, rfl, World.block_lt_of_cell? W _ (hc' 0 (by omega)), fun k u hu => ?_⟩
      have hk : k < len0 := by
        have := (List.getElem?_eq_some_iff.1 hu).1
        rw [List.length_map, List.length_take] at this; omega
      rw [List.getElem?_map, List.getElem?_take_of_lt hk, List.getElem?_eq_getElem (by omega)] at hu
      simp only [Option.map_some, Option.some.injEq] at hu
      subst hu
      rw [hc' k (by omega), List.getD_eq_getElem?_getD, List.getElem?_eq_getElem (by omega)]; rfl
    · have := hw x (List.mem_of_mem_take hx)
      exact (show -9223372036854775808 ≤ x ∧ x ≤ 9223372036854775807 by simpa [Lit.wf, IntKind.min, IntKind.max, IntKind.signed, IntKind.bits] using this)
end
end Go.Proofs.Ytcicejmahlobhaa
