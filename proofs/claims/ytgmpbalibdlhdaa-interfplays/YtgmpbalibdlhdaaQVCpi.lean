/- The walk of the document's CopyInts. -/
import Derived.Test.YtgmpbalibdlhdaaQVVec
import Derived.Laws.CopyOwn
set_option linter.unusedSimpArgs false
set_option linter.unusedVariables false
namespace Go.Proofs.Ytgmpbalibdlhdaa
open Go.RowKit
end Go.Proofs.Ytgmpbalibdlhdaa
