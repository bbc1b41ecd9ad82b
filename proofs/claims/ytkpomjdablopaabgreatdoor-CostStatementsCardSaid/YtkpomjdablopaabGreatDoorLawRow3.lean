/- From a row to a walk: the parts of a statement. -/
import Derived.Test.YtkpomjdablopaabGreatDoorLawRow2
import Derived.Test.YtkpomjdablopaabGreatDoorAdP
namespace Go.Proofs.YtkpomjdablopaabGreatDoor
open Go.ChangeShapes Go.WideShapes Go.ChangeAt Go.RowKit
set_option linter.unusedVariables false

theorem cellsPieces : Tryz.prog.cellsOf 29 = 9 := by kernel_rfl
section
variable {H : Type} {enc : TypeId × Value → H} {W : World}
set_option maxRecDepth 100000 in
/-- an argument that is the parts of a statement -/
theorem open_pieces {base : Nat} {v : Value} {d : DataW H} {p : List MemPlace} (hv : Value.okWide Tryz.prog W .any base 29 v) (h : DataW.Trod enc Tryz.prog W 0 (fun _ => true) true 29 v d p) :
    ∃ (x y : E) (s : Int), v = .agg (pcs x y s) ∧ E.In W W.heap.size x ∧ E.In W W.heap.size y ∧ inI s := by
  obtain ⟨cs, rfl, hsz⟩ := okWide_struct Tryz.underlying29 hv
  obtain ⟨fuel, hf⟩ := h
  obtain ⟨xs, m, -, -, hl, hxl, hg⟩ := DataW.trod_struct Tryz.underlying29 hf
  rw [cellsPieces] at hl
  have hl9 : cs.toList.length = 9 := hl
  have hx3 : xs.length = 3 := hxl
  have f0 : DataW.trod enc Tryz.prog W 0 (fun _ => true) true m 27 ((cs.toList.drop 0).take 4) = xs[0]? := hg 0 _ rfl
  have f1 : DataW.trod enc Tryz.prog W 0 (fun _ => true) true m 27 ((cs.toList.drop 4).take 4) = xs[1]? := hg 1 _ rfl
  have f2 : DataW.trod enc Tryz.prog W 0 (fun _ => true) true m 3 ((cs.toList.drop 8).take 1) = xs[2]? := hg 2 _ rfl
  rw [List.getElem?_eq_getElem (by omega)] at f0 f1 f2
  obtain ⟨x, hx, ix⟩ := open_tree m f0
  obtain ⟨y, hy, iy⟩ := open_tree m f1
  obtain ⟨s, hs, -, w2⟩ := DataW.trod_int Tryz.underlying3 f2
  refine ⟨x, y, s, ?_, ix, iy, wfI w2⟩
  have e1 : cs.toList = x.cells ++ (y.cells ++ [Value.int .i64 s]) := by
    have h1 := List.take_append_drop 4 cs.toList
    have h2 := List.take_append_drop 4 (cs.toList.drop 4)
    rw [List.drop_drop] at h2
    have h3 : (cs.toList.drop 8).take 1 = cs.toList.drop 8 := List.take_of_length_le (by rw [List.length_drop]; omega)
    rw [h3] at hs
    rw [List.drop_zero] at hx
    rw [← h1, ← h2, hx, hy]
    congr 2
  have h2 : cs = (x.cells ++ (y.cells ++ [Value.int .i64 s])).toArray := by rw [← e1]
  rw [h2]; rfl
end
end Go.Proofs.YtkpomjdablopaabGreatDoor
