import Derived.Test.YtjajnlmnkefhbaaRnE
namespace Go.Proofs.Ytjajnlmnkefhbaa
open Go.RowKit RM
set_option linter.unusedVariables false

/-- The first wrong place, -1: none. -/
noncomputable def wrongOf (l : List Int) : Int := if (run l).2 < l.length then (run l).2 else -1

end Go.Proofs.Ytjajnlmnkefhbaa
