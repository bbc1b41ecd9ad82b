/- From a row to a walk: arguments that are lists of numbers. -/
import Derived.Test.YtlpnbcdnlbghdaaGreatDoorLawRow
import Derived.Test.YtlpnbcdnlbghdaaGreatDoorKl
namespace Go.Proofs.YtlpnbcdnlbghdaaGreatDoor
open Go.ChangeShapes Go.WideShapes Go.ChangeAt Go.RowKit
set_option linter.unusedVariables false

section
variable {H : Type} {enc : TypeId × Value → H} {W : World}
set_option maxRecDepth 100000 in
/-- an argument that is a list of numbers -/
theorem open_zs {base : Nat} {v : Value} {d : DataW H} {p : List MemPlace} (hv : Value.okWide Tryz.prog W .any base 62 v) (h : DataW.Trod enc Tryz.prog W 0 (fun _ => true) true 62 v d p) :
    ∃ (A : Option Addr) (zs : List Int) (c : Nat), v = .slice A zs.length c ∧ Zs W W.heap.size A zs := by
  obtain ⟨a0, len0, cap0, rfl⟩ := okWide_slice Tryz.underlying62 hv
  obtain ⟨fuel, hf⟩ := h
  rcases open_ints Tryz.underlying62 Tryz.underlying3 cellsInt hf with ⟨e1, _⟩ | ⟨ad, len, cap, zs, e1, _, hl, hm, hz, _, hc, hw⟩
  · simp [Value.cells] at e1
    obtain ⟨rfl, rfl, rfl⟩ := e1
    exact ⟨none, [], 0, rfl, ⟨Row.nil _ _ _, by simp, fun z hz => absurd hz (by simp)⟩⟩
  · simp [Value.cells] at e1
    obtain ⟨rfl, rfl, rfl⟩ := e1
    have hzl : zs.length = cap0 := by simpa using hz
    have hll : (zs.take len0).length = len0 := by rw [List.length_take, Nat.min_eq_left (by omega)]
    refine ⟨some ad, zs.take len0, cap0, by rw [hll], ⟨⟨fun hp => ?_⟩, ?_, fun z hz => wfI (hw z (List.mem_of_mem_take hz))⟩⟩
    · have hp' : 0 < len0 := by
        rw [zvals_len, List.length_take] at hp; omega
      obtain ⟨b, off, rfl, hc'⟩ := ints_at hc (by omega)
      refine ⟨b, off, rfl, World.block_lt_of_cell? W _ (hc' 0 (by omega)), fun k u hu => ?_⟩
      unfold zvals at hu
      have hk : k < len0 := by
        have := (List.getElem?_eq_some_iff.1 hu).1
        rw [List.length_map, List.length_take] at this; omega
      rw [List.getElem?_map, List.getElem?_take_of_lt hk, List.getElem?_eq_getElem (by omega)] at hu
      simp only [Option.map_some, Option.some.injEq] at hu
      subst hu
      rw [hc' k (by omega), List.getD_eq_getElem?_getD, List.getElem?_eq_getElem (by omega)]; rfl
    · rw [hll]
      have := maxLen_eq
      omega
end
end Go.Proofs.YtlpnbcdnlbghdaaGreatDoor
