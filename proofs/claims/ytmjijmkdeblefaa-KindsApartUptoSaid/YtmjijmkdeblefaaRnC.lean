import Derived.Test.YtmjijmkdeblefaaRnB
import Derived.Deep.QuietTactic
import Derived.BigQuiet
import Derived.Deep.Light
namespace Go.Proofs.Ytmjijmkdeblefaa
open Go.RowKit RM
set_option linter.unusedVariables false

/-- A new slice that reads as l. -/
def NewSl (k : IntKind) (l : List Int) (w : World) (e : Ending) (w' : World) : Prop :=
  ∃ a cap, e = .returned (.slice a l.length cap) ∧ Sl k w' a cap l ∧ Below w.heap.size w w'

theorem getD_map {k : IntKind} {l : List Int} {i : Nat} (h : i < l.length) : (l.map (Value.int k)).toArray[i]? = some (.int k (l.getD i 0)) := by
  simp [List.getD_eq_getElem?_getD, List.getElem?_eq_getElem h]

theorem sl_alloc {k : IntKind} {l : List Int} (w : World) (T : TypeId) (hm : l.length ≤ 9223372036854775807) :
    Sl k (w.alloc (.cells (l.map (Value.int k)).toArray T)) (some ⟨w.heap.size, 0, none⟩) l.length l := by
  refine ⟨Nat.le_refl _, hm, .inr ⟨_, 0, rfl, by simp, fun i hi => ?_⟩, fun h => by cases h⟩
  rw [World.cell?_alloc_at _ _ _ _ rfl, Nat.zero_add, getD_map hi]

theorem newSl_alloc {k : IntKind} {l : List Int} {w : World} {vs : Array Value} {T : TypeId} {n : Nat} (hv : vs = (l.map (Value.int k)).toArray) (hn : l.length = n) (hm : n ≤ 9223372036854775807) :
    NewSl k l w (.returned (.slice (some ⟨w.heap.size, 0, none⟩) n n)) (w.alloc (.cells vs T)) := by
  subst hv hn
  exact ⟨_, _, rfl, sl_alloc w T hm, (Below.refl _ _).alloc (Nat.le_refl _) _⟩

theorem take_step {l l' : List Int} {k : Nat} (h : k < l.length) (h' : k < l'.length) (e : l.take k = l'.take k) (g : l.getD k 0 = l'.getD k 0) : l.take (k + 1) = l'.take (k + 1) := by
  rw [List.take_succ_eq_append_getElem h, List.take_succ_eq_append_getElem h', e]
  rw [List.getD_eq_getElem?_getD, List.getD_eq_getElem?_getD, List.getElem?_eq_getElem h, List.getElem?_eq_getElem h'] at g
  simp at g
  rw [g]

end Go.Proofs.Ytmjijmkdeblefaa
