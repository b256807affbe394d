/-
  The contracts of All and Few of package custumalref01.
-/
import Derived.Test.YtjndkjgbplpfeaaDoorSz
namespace Go.Proofs.YtjndkjgbplpfeaaDoor
open Go.RowKit
set_option linter.unusedVariables false

end Go.Proofs.YtjndkjgbplpfeaaDoor


