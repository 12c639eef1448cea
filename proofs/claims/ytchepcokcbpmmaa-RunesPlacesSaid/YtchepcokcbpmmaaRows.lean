/-
  No cell of these rows narrows 'for every input' (looked for: loops, veiled, ifaces, maps, wideKeys, modest, calm, conditions, laid).
  DERIVED. THE GIVEN ROWS OF THIS SEAT. 5 by the template 'for every input the law returns true; each argument reads behind the call as it read before'; 0 by the template 'total and deterministic' (their statements: YtchepcokcbpmmaaTotals.lean).
  GIVEN WITH THE SEED: the statements are not yours to turn. If you find one false, say at which input.
  Laid BY PROGRAM, IN A SANDBOX (cutbox-rows.mjs): the forced cells as the released guide's own fill.sh prints them over the translation 9f5954899cadb4b1… (all of the seat's roots in one cut). By AI agents, Wed Nov 11 2026. No macro, syntax, notation, axiom, sorry.
-/
import Derived.Test.YtchepcokcbpmmaaChecked
import GoSem.Claim
import GoSem.ClaimJoined
import GoSem.ClaimMapViews
import Derived.JoinedTies
import Derived.KernelRfl
namespace Go.Proofs.Ytchepcokcbpmmaa
/- THE CELL 'sum', in the pinned program and in every row, IS THE sha256 OF THE DUMP (.gsa) THAT YtchepcokcbpmmaaProg.lean LOADS. Nothing in Lean hashes anything: it is a label: what it is worth is what the hold of that sum in a sandbox is worth. -/
noncomputable def Try.pinned : Pinned := { name := "ytchepcokcbpmmaa", sum := "9f5954899cadb4b1d36b96c27eb1953b0290315a5f067d5f9ee3d78684ea5927", checked := Try.checked }
namespace Rows
def none {H : Type} : Left H := { results := [], args := [] }

/-- 'rowanlaw01.RunesNext': WHATEVER THE INPUT: true; the input reads as it did. -/
def runesNextSpec : ChangeSpec := { name := "runesNext", fn := fun _ => fun
  | [d1, d2] => { results := [.lit (.bool true)], args := [d1, d2] }
  | _ => none }
def runesNextRow : OpenClaim := { program := "ytchepcokcbpmmaa", sum := "9f5954899cadb4b1d36b96c27eb1953b0290315a5f067d5f9ee3d78684ea5927", func := "rowan/rowanlaw01.RunesNext", spec := "runesNext", apart := false }
def RunesNextSaid : Prop := runesNextRow.holds Try.pinned (OpenSpec.ofChange runesNextSpec)

/-- ITS FALSE NEIGHBOUR: 'it returns false'. Refute it at one input. -/
def runesNextWrong : ChangeSpec := { name := "runesNext", fn := fun _ => fun
  | [d1, d2] => { results := [.lit (.bool false)], args := [d1, d2] }
  | _ => none }
def RunesNextWrongFalsely : Prop := runesNextRow.holds Try.pinned (OpenSpec.ofChange runesNextWrong)

/-- 'rowanlaw01.RunesPut': WHATEVER THE INPUT: true; the input reads as it did. -/
def runesPutSpec : ChangeSpec := { name := "runesPut", fn := fun _ => fun
  | [d1, d2] => { results := [.lit (.bool true)], args := [d1, d2] }
  | _ => none }
def runesPutRow : OpenClaim := { program := "ytchepcokcbpmmaa", sum := "9f5954899cadb4b1d36b96c27eb1953b0290315a5f067d5f9ee3d78684ea5927", func := "rowan/rowanlaw01.RunesPut", spec := "runesPut", apart := false }
def RunesPutSaid : Prop := runesPutRow.holds Try.pinned (OpenSpec.ofChange runesPutSpec)

/-- ITS FALSE NEIGHBOUR: 'it returns false'. Refute it at one input. -/
def runesPutWrong : ChangeSpec := { name := "runesPut", fn := fun _ => fun
  | [d1, d2] => { results := [.lit (.bool false)], args := [d1, d2] }
  | _ => none }
def RunesPutWrongFalsely : Prop := runesPutRow.holds Try.pinned (OpenSpec.ofChange runesPutWrong)

/-- 'rowanlaw01.RunesCheck': WHATEVER THE INPUT: true; the input reads as it did. -/
def runesCheckSpec : ChangeSpec := { name := "runesCheck", fn := fun _ => fun
  | [d] => { results := [.lit (.bool true)], args := [d] }
  | _ => none }
def runesCheckRow : OpenClaim := { program := "ytchepcokcbpmmaa", sum := "9f5954899cadb4b1d36b96c27eb1953b0290315a5f067d5f9ee3d78684ea5927", func := "rowan/rowanlaw01.RunesCheck", spec := "runesCheck", apart := false }
def RunesCheckSaid : Prop := runesCheckRow.holds Try.pinned (OpenSpec.ofChange runesCheckSpec)

/-- ITS FALSE NEIGHBOUR: 'it returns false'. Refute it at one input. -/
def runesCheckWrong : ChangeSpec := { name := "runesCheck", fn := fun _ => fun
  | [d] => { results := [.lit (.bool false)], args := [d] }
  | _ => none }
def RunesCheckWrongFalsely : Prop := runesCheckRow.holds Try.pinned (OpenSpec.ofChange runesCheckWrong)

/-- 'rowanlaw01.RunesPlaces': WHATEVER THE INPUT: true; the input reads as it did. -/
def runesPlacesSpec : ChangeSpec := { name := "runesPlaces", fn := fun _ => fun
  | [d1, d2] => { results := [.lit (.bool true)], args := [d1, d2] }
  | _ => none }
def runesPlacesRow : OpenClaim := { program := "ytchepcokcbpmmaa", sum := "9f5954899cadb4b1d36b96c27eb1953b0290315a5f067d5f9ee3d78684ea5927", func := "rowan/rowanlaw01.RunesPlaces", spec := "runesPlaces", inPlace := ["internal/bytealg.Count", "internal/bytealg.IndexByte", "internal/bytealg.Index"], named := ["internal/bytealg.MaxLen"], apart := false }
def RunesPlacesSaid : Prop := runesPlacesRow.holds Try.pinned (OpenSpec.ofChange runesPlacesSpec)

/-- ITS FALSE NEIGHBOUR: 'it returns false'. Refute it at one input. -/
def runesPlacesWrong : ChangeSpec := { name := "runesPlaces", fn := fun _ => fun
  | [d1, d2] => { results := [.lit (.bool false)], args := [d1, d2] }
  | _ => none }
def RunesPlacesWrongFalsely : Prop := runesPlacesRow.holds Try.pinned (OpenSpec.ofChange runesPlacesWrong)

/-- 'rowanlaw01.RunesBack': WHATEVER THE INPUT: true; the input reads as it did. -/
def runesBackSpec : ChangeSpec := { name := "runesBack", fn := fun _ => fun
  | [d] => { results := [.lit (.bool true)], args := [d] }
  | _ => none }
def runesBackRow : OpenClaim := { program := "ytchepcokcbpmmaa", sum := "9f5954899cadb4b1d36b96c27eb1953b0290315a5f067d5f9ee3d78684ea5927", func := "rowan/rowanlaw01.RunesBack", spec := "runesBack", apart := false }
def RunesBackSaid : Prop := runesBackRow.holds Try.pinned (OpenSpec.ofChange runesBackSpec)

/-- ITS FALSE NEIGHBOUR: 'it returns false'. Refute it at one input. -/
def runesBackWrong : ChangeSpec := { name := "runesBack", fn := fun _ => fun
  | [d] => { results := [.lit (.bool false)], args := [d] }
  | _ => none }
def RunesBackWrongFalsely : Prop := runesBackRow.holds Try.pinned (OpenSpec.ofChange runesBackWrong)

/- THE SECOND FORM. 'bulk': how many values and letters a reading holds, each counted each time it is reached (what is shared counts as often as it is met; a slice's spare places count too). A statement '..UptoSaid' is the law's where the arguments, and the package variables that the reading takes, are together of bulk at most 1048576: NARROWER than '..Said'. Prove '..Said' where nothing that the law and all that it calls make is longer than what came in: it says more and counts as full. Else prove '..UptoSaid'. A law counts once. -/
mutual
def uptoBulk {H : Type} : DataW H → Nat
  | .lit (.string bytes) => bytes.length + 1
  | .lit _ => 1
  | .nil => 1
  | .ptr d => uptoBulk d + 1
  | .slice elems spare => uptoBulkAll elems + uptoBulkAll spare + 1
  | .agg parts => uptoBulkAll parts + 1
  | .iface _ d => uptoBulk d + 1
  | .map entries => uptoBulkEntries entries + 1
  | .held _ => 1
def uptoBulkAll {H : Type} : List (DataW H) → Nat
  | [] => 0
  | d :: r => uptoBulk d + uptoBulkAll r
def uptoBulkEntries {H : Type} : List (Lit × DataW H) → Nat
  | [] => 0
  | x :: r => uptoBulkEntry x + uptoBulkEntries r
def uptoBulkEntry {H : Type} : Lit × DataW H → Nat
  | (.string bytes, d) => bytes.length + uptoBulk d + 1
  | (_, d) => uptoBulk d + 1
 end
def uptoSmall : (H : Type) → List (DataW H) → Bool := fun _ ds => decide (uptoBulkAll ds ≤ 1048576)
def OpenSpec.upto (s : _root_.Go.ChangeSpec) : _root_.Go.OpenSpec := { _root_.Go.OpenSpec.ofChange s with cond := some uptoSmall }

/-- 'rowanlaw01.RunesNext', WHERE WHAT IT READS IS OF BULK AT MOST 1048576: true; the input reads as it did. -/
def runesNextUptoRow : OpenClaim := { program := "ytchepcokcbpmmaa", sum := "9f5954899cadb4b1d36b96c27eb1953b0290315a5f067d5f9ee3d78684ea5927", func := "rowan/rowanlaw01.RunesNext", spec := "runesNext", apart := false, narrowed := true }
def RunesNextUptoSaid : Prop := runesNextUptoRow.holds Try.pinned (OpenSpec.upto runesNextSpec)

/-- 'rowanlaw01.RunesPut', WHERE WHAT IT READS IS OF BULK AT MOST 1048576: true; the input reads as it did. -/
def runesPutUptoRow : OpenClaim := { program := "ytchepcokcbpmmaa", sum := "9f5954899cadb4b1d36b96c27eb1953b0290315a5f067d5f9ee3d78684ea5927", func := "rowan/rowanlaw01.RunesPut", spec := "runesPut", apart := false, narrowed := true }
def RunesPutUptoSaid : Prop := runesPutUptoRow.holds Try.pinned (OpenSpec.upto runesPutSpec)

/-- 'rowanlaw01.RunesCheck', WHERE WHAT IT READS IS OF BULK AT MOST 1048576: true; the input reads as it did. -/
def runesCheckUptoRow : OpenClaim := { program := "ytchepcokcbpmmaa", sum := "9f5954899cadb4b1d36b96c27eb1953b0290315a5f067d5f9ee3d78684ea5927", func := "rowan/rowanlaw01.RunesCheck", spec := "runesCheck", apart := false, narrowed := true }
def RunesCheckUptoSaid : Prop := runesCheckUptoRow.holds Try.pinned (OpenSpec.upto runesCheckSpec)

/-- 'rowanlaw01.RunesPlaces', WHERE WHAT IT READS IS OF BULK AT MOST 1048576: true; the input reads as it did. -/
def runesPlacesUptoRow : OpenClaim := { program := "ytchepcokcbpmmaa", sum := "9f5954899cadb4b1d36b96c27eb1953b0290315a5f067d5f9ee3d78684ea5927", func := "rowan/rowanlaw01.RunesPlaces", spec := "runesPlaces", inPlace := ["internal/bytealg.Count", "internal/bytealg.IndexByte", "internal/bytealg.Index"], named := ["internal/bytealg.MaxLen"], apart := false, narrowed := true }
def RunesPlacesUptoSaid : Prop := runesPlacesUptoRow.holds Try.pinned (OpenSpec.upto runesPlacesSpec)

/-- 'rowanlaw01.RunesBack', WHERE WHAT IT READS IS OF BULK AT MOST 1048576: true; the input reads as it did. -/
def runesBackUptoRow : OpenClaim := { program := "ytchepcokcbpmmaa", sum := "9f5954899cadb4b1d36b96c27eb1953b0290315a5f067d5f9ee3d78684ea5927", func := "rowan/rowanlaw01.RunesBack", spec := "runesBack", apart := false, narrowed := true }
def RunesBackUptoSaid : Prop := runesBackUptoRow.holds Try.pinned (OpenSpec.upto runesBackSpec)

end Rows
end Go.Proofs.Ytchepcokcbpmmaa
