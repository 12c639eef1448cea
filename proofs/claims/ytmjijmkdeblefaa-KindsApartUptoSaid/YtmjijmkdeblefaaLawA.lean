/- KindsRight: the law's walk. -/
import Derived.Test.YtmjijmkdeblefaaKdZ
import Derived.Test.YtmjijmkdeblefaaKdS
import Derived.Deep.RegionWith
import Derived.Deep.RegionHeld3
namespace Go.Proofs.Ytmjijmkdeblefaa
open Go.RowKit LM
set_option linter.unusedVariables false

/-- A tree that lies in memory, no greater than Go bears. -/
structure TyIs (w : World) (h : Hd) (k : Fo) (q : Option Addr) (cap : Nat) : Prop where
  hh : h.ok
  hk : k.ok
  sl : SlF w q cap k
  sz : 1 + k.size ≤ 1099511627776

theorem Parts_len (h : Hd) (k : Fo) (q : Option Addr) (cap : Nat) (w : World) (hsz : 1 + k.size ≤ 1099511627776) (hsl : SlF w q cap k) :
    Calls Try.prog 53 #[.agg #[.int .u8 h.op, .string h.name, .int .i64 h.n, .slice q k.len cap]] w fun e w' => ∃ a cp, e = .returned (.slice a (1 + k.size) cp) ∧ Below w.heap.size w w' :=
  (Parts_any (k.size + 1) h k q cap w (by omega) hsz hsl).mono fun e w' ⟨v, ps, he, hown, hps, hb⟩ => by
    obtain ⟨g, cp, cur, rfl, _⟩ := own_some hown (by omega)
    exact ⟨_, cp, he, hb⟩

end Go.Proofs.Ytmjijmkdeblefaa
