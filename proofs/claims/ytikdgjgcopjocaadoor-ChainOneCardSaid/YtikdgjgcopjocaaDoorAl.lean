/-
  The contracts of All and Few of package custumalref01.
-/
import Derived.Test.YtikdgjgcopjocaaDoorSz
namespace Go.Proofs.YtikdgjgcopjocaaDoor
open Go.RowKit
set_option linter.unusedVariables false

end Go.Proofs.YtikdgjgcopjocaaDoor


