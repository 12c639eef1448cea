import Derived.Test.YtjajnlmnkefhbaaRnD
namespace Go.Proofs.Ytjajnlmnkefhbaa
open Go.RowKit RM
set_option linter.unusedVariables false

end Go.Proofs.Ytjajnlmnkefhbaa
