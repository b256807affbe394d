/-
  The contracts of All and Few of package custumalref01.
-/
import Derived.Test.YtnidfcmomdmjaaaDoorSz
namespace Go.Proofs.YtnidfcmomdmjaaaDoor
open Go.RowKit
set_option linter.unusedVariables false

end Go.Proofs.YtnidfcmomdmjaaaDoor


