/-
  The contracts of All and Few of package custumalref01.
-/
import Derived.Test.YtndakfanlgilmaaDoorSz
namespace Go.Proofs.YtndakfanlgilmaaDoor
open Go.RowKit
set_option linter.unusedVariables false

end Go.Proofs.YtndakfanlgilmaaDoor


