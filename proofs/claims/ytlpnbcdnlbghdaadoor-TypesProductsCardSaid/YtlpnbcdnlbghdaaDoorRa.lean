/- Walks: the reference's counts over a type. -/
import Derived.Test.YtlpnbcdnlbghdaaDoorRp
import Derived.Test.YtlpnbcdnlbghdaaDoorDe
namespace Go.Proofs.YtlpnbcdnlbghdaaDoor
open Go.RowKit Go.Sort
set_option linter.unusedVariables false

end Go.Proofs.YtlpnbcdnlbghdaaDoor
