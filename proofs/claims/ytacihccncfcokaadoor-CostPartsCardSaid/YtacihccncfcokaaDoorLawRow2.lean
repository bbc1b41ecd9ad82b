/- From a row to a walk: an operator, two expressions, the parts of a statement. -/
import Derived.Test.YtacihccncfcokaaDoorLawRow
import Derived.Test.YtacihccncfcokaaDoorLawParts
namespace Go.Proofs.YtacihccncfcokaaDoor
open Go.ChangeShapes Go.WideShapes Go.ChangeAt Go.RowKit
set_option linter.unusedVariables false

theorem okWide_array {P : Program} {w : World} {r : Reach} {base n : Nat} {t e : TypeId} {v : Value} (ht : P.underlying t = some (.array n e)) (h : Value.okWide P w r base t v) : ∃ cs, v = .agg cs ∧ cs.size = P.cellsOf t := by
  simp only [Value.okWide, ht] at h
  obtain ⟨cs, h1, h2, _⟩ := h
  exact ⟨cs, h1, h2⟩
section
variable {H : Type} {enc : TypeId × Value → H} {W : World}
set_option maxRecDepth 100000 in
/-- an argument that is an operator -/
theorem open_op {base : Nat} {v : Value} {d : DataW H} {p : List MemPlace} (hv : Value.okWide Tryd.prog W .any base 32 v) (h : DataW.Trod enc Tryd.prog W 0 (fun _ => true) true 32 v d p) : ∃ o : Int, v = .int .i64 o ∧ inI o := by
  obtain ⟨o, rfl, _, _, hwf⟩ := Go.ChangeShapes.open_int Tryd.underlying32 hv h
  exact ⟨o, rfl, wfI hwf⟩
set_option maxRecDepth 100000 in
/-- an argument that is two expressions -/
theorem open_two {base : Nat} {v : Value} {d : DataW H} {p : List MemPlace} (hv : Value.okWide Tryd.prog W .any base 47 v) (h : DataW.Trod enc Tryd.prog W 0 (fun _ => true) true 47 v d p) :
    ∃ x y : E, v = .agg (pr x y) ∧ E.In W W.heap.size x ∧ E.In W W.heap.size y := by
  obtain ⟨cs, rfl, hsz⟩ := okWide_array Tryd.underlying47 hv
  obtain ⟨fuel, hf⟩ := h
  obtain ⟨xs, m, -, -, hl, hxl, hg⟩ := DataW.trod_array Tryd.underlying47 hf
  rw [cellsExpr] at hg
  have g0 := hg 0 (by omega)
  have g1 := hg 1 (by omega)
  rw [List.getElem?_eq_getElem (by omega)] at g0 g1
  obtain ⟨x, hx, ix⟩ := open_tree m g0
  obtain ⟨y, hy, iy⟩ := open_tree m g1
  refine ⟨x, y, ?_, ix, iy⟩
  have hl8 : cs.toList.length = 8 := by
    have : Tryd.prog.cellsOf 47 = 8 := by kernel_rfl
    rw [← this]; exact hl
  have e1 : cs.toList = x.cells ++ y.cells := by
    have h1 : (Value.agg cs).cells.toList = cs.toList := rfl
    rw [h1] at hx hy
    have h2 := List.take_append_drop 4 cs.toList
    rw [← h2]
    congr 1
    have h3 : (cs.toList.drop (1 * 4)).take 4 = cs.toList.drop 4 := List.take_of_length_le (by rw [List.length_drop]; omega)
    rw [← h3]; exact hy
  have h2 : cs = (x.cells ++ y.cells).toArray := by rw [← e1]
  rw [h2]; rfl
end
end Go.Proofs.YtacihccncfcokaaDoor
