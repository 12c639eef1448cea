import Derived.Test.YtmjijmkdeblefaaRnE
namespace Go.Proofs.Ytmjijmkdeblefaa
open Go.RowKit RM
set_option linter.unusedVariables false

/-- The first wrong place, -1: none. -/
noncomputable def wrongOf (l : List Int) : Int := if (run l).2 < l.length then (run l).2 else -1

end Go.Proofs.Ytmjijmkdeblefaa
