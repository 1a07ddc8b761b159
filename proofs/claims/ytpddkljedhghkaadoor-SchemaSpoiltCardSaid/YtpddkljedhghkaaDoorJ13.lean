/-
  What the program's choose and member give.
-/
import Derived.Test.YtpddkljedhghkaaDoorJ12
set_option linter.unusedVariables false
namespace Go.Proofs.YtpddkljedhghkaaDoor
open Go Go.RowKit
end Go.Proofs.YtpddkljedhghkaaDoor
