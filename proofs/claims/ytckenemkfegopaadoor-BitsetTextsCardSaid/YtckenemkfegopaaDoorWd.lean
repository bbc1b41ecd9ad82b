/- Walks: Subset and the reference's Subset. -/
import Derived.Test.YtckenemkfegopaaDoorWc
namespace Go.Proofs.YtckenemkfegopaaDoor
open Go.RowKit
set_option linter.unusedVariables false

end Go.Proofs.YtckenemkfegopaaDoor
