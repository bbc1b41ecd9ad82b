/- Walks: the reference's Bottom. -/
import Derived.Test.YtcckocaaoklibaaNf
namespace Go.Proofs.Ytcckocaaoklibaa
open Go.RowKit Go.Maps
set_option linter.unusedVariables false

end Go.Proofs.Ytcckocaaoklibaa
