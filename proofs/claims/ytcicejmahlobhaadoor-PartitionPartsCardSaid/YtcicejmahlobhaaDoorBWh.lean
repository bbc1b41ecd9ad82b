/- Walks: copyWith, With, Without. -/
import Derived.Test.YtcicejmahlobhaaDoorBW8
namespace Go.Proofs.YtcicejmahlobhaaDoor.Bs
open Go.RowKit
set_option linter.unusedVariables false

/-- a copy of a set: new words -/
def CopyRes (n : Nat) (ws : List Nat) (w : World) (e : Ending) (w' : World) : Prop :=
  ∃ g, w.heap.size ≤ g ∧ e = .returned (.tuple #[setV n (some ⟨g, 0, none⟩) ws.length ws.length, .int .i64 0]) ∧ WBlk w' g ws ∧ Below w.heap.size w w'

end Go.Proofs.YtcicejmahlobhaaDoor.Bs
