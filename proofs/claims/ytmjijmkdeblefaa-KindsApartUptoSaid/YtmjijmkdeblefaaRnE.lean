import Derived.Test.YtmjijmkdeblefaaRnD
namespace Go.Proofs.Ytmjijmkdeblefaa
open Go.RowKit RM
set_option linter.unusedVariables false

end Go.Proofs.Ytmjijmkdeblefaa
