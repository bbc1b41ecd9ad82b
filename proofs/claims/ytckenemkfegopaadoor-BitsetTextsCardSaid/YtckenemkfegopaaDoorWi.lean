/- Walks: With, Without. -/
import Derived.Test.YtckenemkfegopaaDoorWh
namespace Go.Proofs.YtckenemkfegopaaDoor
open Go.RowKit
set_option linter.unusedVariables false

theorem andNot_pow (x k : Nat) (hx : x < 2 ^ 64) (hk : k < 64) : bits BinOp.andNot IntKind.u64 (x : Int) (IntKind.u64.wrap (2 ^ k)) = ((x &&& (18446744073709551615 - 2 ^ k) : Nat) : Int) := by
  have hp : (2 : Nat) ^ k < 2 ^ 64 := Nat.pow_lt_pow_right (by omega) hk
  rw [pow_natCast, wrap_nat hp]
  exact andNot_bits hx hp

/-- behind With's store -/
structure WtInv (w wr : World) (b6 g : Nat) (n m : Nat) (ws : List Nat) : Prop where
  t2 : Two wr (w.heap.size + 1) (.int .i64 0) (.slice none 0 0)
  t6 : Two wr b6 (.int .i64 (n : Int)) (.slice (some ⟨g, 0, none⟩) m m)
  row : WBlk wr g ws
  bel : Below w.heap.size w wr
  hg : w.heap.size + 1 < g
  h6 : b6 ≠ g

end Go.Proofs.YtckenemkfegopaaDoor
