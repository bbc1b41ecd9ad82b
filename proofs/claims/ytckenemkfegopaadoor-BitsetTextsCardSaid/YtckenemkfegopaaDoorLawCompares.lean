/- The law BitsetCompares, walked: for every two sets of whatever words Equal and Subset answer as the reference does, and a set equals itself exactly if it is valid. -/
import Derived.Test.YtckenemkfegopaaDoorWa
import Derived.Test.YtckenemkfegopaaDoorWd
import Derived.Lib.QuietBelow
namespace Go.Proofs.YtckenemkfegopaaDoor
open Go.RowKit Go.Sort
set_option linter.unusedVariables false

theorem Words.regrown {w : World} {B : Nat} {A : Option Addr} {ws : List Nat} (h : Words w B A ws) (hB : B ≤ w.heap.size) (d : Nat) (os : Array Obj) : Words (grow (redrawn w d) os) (grow (redrawn w d) os).heap.size A ws :=
  (h.below ((below_regrown w d os).mono hB)).more (Nat.le_trans hB (below_regrown w d os).size)

theorem eqB_self {sa : Int} {wa : List Nat} : eqB sa wa sa wa = Kb.validB sa wa := by unfold eqB; simp

end Go.Proofs.YtckenemkfegopaaDoor
