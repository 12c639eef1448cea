import Derived.Test.YtaaohaihajccgaaRnD
namespace Go.Proofs.Ytaaohaihajccgaa
open Go.RowKit RM
set_option linter.unusedVariables false

end Go.Proofs.Ytaaohaihajccgaa
