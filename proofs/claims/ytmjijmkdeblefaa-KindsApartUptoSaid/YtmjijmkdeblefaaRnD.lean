import Derived.Test.YtmjijmkdeblefaaRnC
import Derived.Deep.RegionWith
import Derived.Deep.CutRange
import Derived.Deep.RegionHeld3
import Derived.Deep.Light
import Derived.Deep.LoopGhost
namespace Go.Proofs.Ytmjijmkdeblefaa
open Go.RowKit RM
set_option linter.unusedVariables false

/-- What At answers. -/
noncomputable def atV (l : List Int) (p : Nat) : Value := .tuple #[.int .i64 (decR l p), .int .i64 (decN l p)]

theorem below_dN {B : Nat} {w w1 : World} (h : Below B w w1) (n : Nat) : Below B w (w1.drewN n) := ⟨h.os, h.tape, h.output, h.size, h.block⟩

end Go.Proofs.Ytmjijmkdeblefaa
