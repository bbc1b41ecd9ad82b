/- The law LatticeNil, walked. -/
import Derived.Test.YtcicejmahlobhaaN8
namespace Go.Proofs.Ytcicejmahlobhaa
open Go.RowKit Go.Maps
set_option linter.unusedVariables false

set_option maxRecDepth 100000 in
set_option maxHeartbeats 4000000 in
theorem nil_walk (a b : Int) (s : ByteArray) (w : World) : Calls Try.prog 10 #[.int .i64 a, .int .i64 b, .string s] w fun e w' => e = .returned (.bool true) ∧ Below w.heap.size w w' := by
  go_enter Try.func10, Try.ntmps10
  go_wp2_with fail
  refine (known_ok _).mono ?_
  rintro e w1 ⟨rfl, b1⟩
  go_wp2_with fail
  refine (name_nil _ _).mono ?_
  rintro e w2 ⟨rfl, rfl⟩
  go_wp2_with fail
  refine (find_nil _ _).mono ?_
  rintro e w2 ⟨rfl, rfl⟩
  go_wp2_with fail
  refine (join_nil _ _ _).mono ?_
  rintro e w2 ⟨rfl, b2⟩
  replace b1 := bTrans b1 b2
  clear b2
  go_wp2_with fail
  refine (meet_nil _ _ _).mono ?_
  rintro e w3 ⟨rfl, rfl⟩
  go_wp2_with fail
  refine (joinAll_nil _ _).mono ?_
  rintro e w3 ⟨rfl, rfl⟩
  replace b1 := bTrans b1 (al1 w2 (.cells #[.int .i64 a, .int .i64 b] 3))
  generalize w2.alloc (.cells #[.int .i64 a, .int .i64 b] 3) = w4 at *
  go_wp2_with fail
  refine (below_nil _ _ _).mono ?_
  rintro e w3 ⟨rfl, rfl⟩
  go_wp2_with fail
  refine (size_nil _).mono ?_
  rintro e w3 ⟨rfl, rfl⟩
  go_wp2_with fail
  refine (top_nil _).mono ?_
  rintro e w3 ⟨rfl, rfl⟩
  go_wp2_with fail
  refine (bottom_nil _).mono ?_
  rintro e w3 ⟨rfl, rfl⟩
  go_wp2_with fail
  refine (covers_nil _).mono ?_
  rintro e w3 ⟨rfl, rfl⟩
  go_wp2_with fail
  refine (height_nil _).mono ?_
  rintro e w3 ⟨rfl, b3⟩
  go_wp2_with fail
  go_ret
  exact ⟨rfl, bTrans b1 b3⟩
end Go.Proofs.Ytcicejmahlobhaa
