/- Walks: the laws' test of few parts; what a law over a model and an expression starts with. -/
import Derived.Test.YtkpomjdablopaabGreatDoorRi
import Derived.Test.YtkpomjdablopaabGreatDoorKn
namespace Go.Proofs.YtkpomjdablopaabGreatDoor
open Go.RowKit Go.Sort
set_option linter.unusedVariables false

def fewB (e : E) (n : Int) : Bool := decide (0 ≤ e.lf n)
set_option maxRecDepth 100000 in
theorem fewExpr_any (e : E) (n : Int) (w : World) (hin : E.In w w.heap.size e) (h0 : 0 ≤ n) (h1 : n ≤ 60000) : Calls Tryz.prog 22 #[e.val, .int .i64 n] w fun r w' => r = .returned (.bool (fewB e n)) ∧ Below w.heap.size w w' := by
  obtain ⟨z, hz⟩ : ∃ z, Hid (e.lf n = z) := ⟨_, Lib.hid rfl⟩
  have HR : Hid (decide (0 ≤ z) = fewB e n) := Lib.hid (by unfold fewB; rw [hz.out])
  go_enter Tryz.func22, Tryz.ntmps22
  go_wp2_with fail
  refine (left_any e n _ (hin.at (al1 _ _)) h0 h1).mono ?_
  rintro r w1 ⟨rfl, b1, -⟩
  rw [hz.out]
  go_wp2_with fail
  go_ret
  exact ⟨ret_bool HR.out, bTrans (al1 _ _) b1⟩
set_option maxRecDepth 100000 in
theorem few_any (e : E) (w : World) (hin : E.In w w.heap.size e) : Calls Tryz.prog 5 #[e.val] w fun r w' => r = .returned (.bool (fewB e 300)) ∧ Below w.heap.size w w' := by
  go_enter Tryz.func5, Tryz.ntmps5
  go_wp2_with fail
  refine (fewExpr_any e 300 _ (hin.at (al1 _ _)) (by decide) (by decide)).mono ?_
  rintro r w1 ⟨rfl, b1⟩
  go_wp2_with fail
  go_ret
  exact ⟨rfl, bTrans (al1 _ _) b1⟩
theorem few_fit {e : E} {w : World} (hin : E.In w w.heap.size e) (h : fewB e 300 = true) : Fit w e ∧ e.nodes ≤ 300 := by
  have h1 := E.lf_few e 300 (by decide) (of_decide_eq_true h)
  have h2 := of_decide_eq_true h
  exact ⟨⟨hin, h1.2, by omega⟩, by omega⟩
end Go.Proofs.YtkpomjdablopaabGreatDoor
