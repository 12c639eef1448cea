import Derived.Test.YtipfbppkahfnmaaDoorRnD
namespace Go.Proofs.YtipfbppkahfnmaaDoor
open Go.RowKit RM
set_option linter.unusedVariables false

theorem next_ok (a : Option Addr) (cap : Nat) (l : List Int) (p : Nat) (r : Int) (n : Nat) (w : World) (h : Sl .u8 w a cap l) (hb : Byt l) (hd : Dec l p r) (hn : n = (encB r).length) :
    Calls Tryd.prog 33 #[.slice a l.length cap, .int .i64 p] w fun e w' => e = .returned (.tuple #[.int .i32 r, .int .i64 n, .int .u8 0]) ∧ w = w' := by
  have h1 := next_in a cap l p w h hb (by have := hd.fits; have := (encB_len r).1; omega)
  rw [nextV_ok hd hn] at h1
  exact h1

theorem next_no (a : Option Addr) (cap : Nat) (l : List Int) (p : Nat) (w : World) (h : Sl .u8 w a cap l) (hb : Byt l) (hp : p < l.length) (hd : ∀ r, ¬ Dec l p r) :
    Calls Tryd.prog 33 #[.slice a l.length cap, .int .i64 p] w fun e w' => e = .returned (.tuple #[.int .i32 0, .int .i64 0, .int .u8 3]) ∧ w = w' := by
  have h1 := next_in a cap l p w h hb hp
  rw [nextV_bad hd] at h1
  exact h1

theorem at_ok (a : Option Addr) (cap : Nat) (l : List Int) (p : Nat) (r : Int) (n : Nat) (w : World) (h : Sl .u8 w a cap l) (hb : Byt l) (hL : l.length ≤ 5000) (hd : Dec l p r) (hn : n = (encB r).length) :
    Calls Tryd.prog 20 #[.slice a l.length cap, .int .i64 p] w fun e w' => e = .returned (.tuple #[.int .i64 r, .int .i64 n]) ∧ Below w.heap.size w w' := by
  have h1 := At_any a cap l p w h hb hL (by have := hd.fits; have := (encB_len r).1; omega)
  have e : atV l p = .tuple #[.int .i64 r, .int .i64 n] := by unfold atV; rw [hd.r, hd.n, hn]
  rw [e] at h1
  exact h1

theorem at_no (a : Option Addr) (cap : Nat) (l : List Int) (p : Nat) (w : World) (h : Sl .u8 w a cap l) (hb : Byt l) (hL : l.length ≤ 5000) (hp : p < l.length) (hd : ∀ r, ¬ Dec l p r) :
    Calls Tryd.prog 20 #[.slice a l.length cap, .int .i64 p] w fun e w' => e = .returned (.tuple #[.int .i64 0, .int .i64 0]) ∧ Below w.heap.size w w' := by
  have h1 := At_any a cap l p w h hb hL hp
  have e : atV l p = .tuple #[.int .i64 0, .int .i64 0] := by unfold atV; rw [(dec_none hd).1, (dec_none hd).2]; rfl
  rw [e] at h1
  exact h1

end Go.Proofs.YtipfbppkahfnmaaDoor
