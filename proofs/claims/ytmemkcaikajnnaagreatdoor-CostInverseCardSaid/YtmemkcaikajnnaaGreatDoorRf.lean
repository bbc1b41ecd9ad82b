/- Walks: CheckExpr of the reference. -/
import Derived.Test.YtmemkcaikajnnaaGreatDoorRd
namespace Go.Proofs.YtmemkcaikajnnaaGreatDoor
open Go.RowKit Go.Sort
set_option linter.unusedVariables false

/-- a tree that the reference can look at -/
structure Fit (w : World) (e : E) : Prop where
  hin : E.In w w.heap.size e
  big : e.any E.big = false
  nod : e.nodes ≤ 1000000
theorem Fit.at {w w' : World} {e : E} (h : Fit w e) (hb : Below w.heap.size w w') : Fit w' e := ⟨h.hin.at hb, h.big, h.nod⟩
theorem Fit.good {w : World} {e : E} (h : Fit w e) : Good w e := ⟨h.hin, h.big⟩
end Go.Proofs.YtmemkcaikajnnaaGreatDoor
