/- KindsSame: the law's walk. -/
import Derived.Test.YtjajnlmnkefhbaaKwI
namespace Go.Proofs.Ytjajnlmnkefhbaa
open Go.RowKit LM
set_option linter.unusedVariables false

/-- Two types in boxes. -/
structure Bx2 (w : World) (h : Hd) (L : Nat) (q : Option Addr) (cap : Nat) (H : Hd) (L' : Nat) (Q : Option Addr) (C : Nat) (W : World) : Prop where
  a : W.heap[w.heap.size]? = some (.cells #[.int .u8 h.op, .string h.name, .int .i64 h.n, .slice q L cap] 25 (0, 0))
  b : W.heap[w.heap.size + 1]? = some (.cells #[.int .u8 H.op, .string H.name, .int .i64 H.n, .slice Q L' C] 25 (0, 0))
  below : Below w.heap.size w W
theorem Bx2.start (w : World) (h : Hd) (L : Nat) (q : Option Addr) (cap : Nat) (H : Hd) (L' : Nat) (Q : Option Addr) (C : Nat) : Bx2 w h L q cap H L' Q C ((w.alloc (.cells #[.int .u8 h.op, .string h.name, .int .i64 h.n, .slice q L cap] 25)).alloc (.cells #[.int .u8 H.op, .string H.name, .int .i64 H.n, .slice Q L' C] 25)) := by
  obtain ⟨x, y, z⟩ := two_boxes (Below.refl ((w.alloc (.cells #[.int .u8 h.op, .string h.name, .int .i64 h.n, .slice q L cap] 25)).alloc (.cells #[.int .u8 H.op, .string H.name, .int .i64 H.n, .slice Q L' C] 25)).heap.size _)
  exact ⟨y, z, x⟩
theorem Bx2.go {w : World} {h : Hd} {L : Nat} {q : Option Addr} {cap : Nat} {H : Hd} {L' : Nat} {Q : Option Addr} {C : Nat} {W W' : World} (hp : Bx2 w h L q cap H L' Q C W) (hb : Below W.heap.size W W') : Bx2 w h L q cap H L' Q C W' :=
  ⟨(hb.block _ (Array.getElem?_eq_some_iff.1 hp.a).1).trans hp.a, (hb.block _ (Array.getElem?_eq_some_iff.1 hp.b).1).trans hp.b, hp.below.trans (hb.mono hp.below.size)⟩
theorem Bx2.cells {w : World} {h : Hd} {L : Nat} {q : Option Addr} {cap : Nat} {H : Hd} {L' : Nat} {Q : Option Addr} {C : Nat} {W : World} (hp : Bx2 w h L q cap H L' Q C W) :
    W.cell? ⟨w.heap.size, 0, none⟩ = some (.int .u8 h.op) ∧ W.cell? ⟨w.heap.size, 1, none⟩ = some (.string h.name) ∧ W.cell? ⟨w.heap.size, 2, none⟩ = some (.int .i64 h.n) ∧ W.cell? ⟨w.heap.size, 3, none⟩ = some (.slice q L cap) ∧
    W.cell? ⟨w.heap.size + 1, 0, none⟩ = some (.int .u8 H.op) ∧ W.cell? ⟨w.heap.size + 1, 1, none⟩ = some (.string H.name) ∧ W.cell? ⟨w.heap.size + 1, 2, none⟩ = some (.int .i64 H.n) ∧ W.cell? ⟨w.heap.size + 1, 3, none⟩ = some (.slice Q L' C) := by
  obtain ⟨x0, x1, x2, x3, _⟩ := row4 hp.a
  obtain ⟨y0, y1, y2, y3, _⟩ := row4 hp.b
  exact ⟨x0, x1, x2, x3, y0, y1, y2, y3⟩

set_option maxRecDepth 100000 in
set_option maxHeartbeats 4000000 in
theorem law_same (h : Hd) (k : Fo) (q : Option Addr) (cap : Nat) (H : Hd) (K : Fo) (Q : Option Addr) (C : Nat) (w : World) (ht : TyIs w h k q cap) (ht' : TyIs w H K Q C) :
    Calls Try.prog 4 #[.agg #[.int .u8 h.op, .string h.name, .int .i64 h.n, .slice q k.len cap], .agg #[.int .u8 H.op, .string H.name, .int .i64 H.n, .slice Q K.len C]] w fun e w' => e = .returned (.bool true) ∧ Below w.heap.size w w' := by
  obtain ⟨hh, hk, hsl, hsz⟩ := ht
  obtain ⟨hh', hk', hsl', hsz'⟩ := ht'
  have HM1 := Lib.hid fun w' (hb : Below w.heap.size w w') => many_any h k q cap w' hsz (hsl.below hb)
  have HM2 := Lib.hid fun w' (hb : Below w.heap.size w w') => many_any H K Q C w' hsz' (hsl'.below hb)
  have HR1 := Lib.hid fun w' (hb : Below w.heap.size w w') => refRight_any h k q cap w' hh hk hsz (hsl.below hb)
  have HR2 := Lib.hid fun w' (hb : Below w.heap.size w w') => refRight_any H K Q C w' hh' hk' hsz' (hsl'.below hb)
  have HW1 := Lib.hid fun w' (hb : Below w.heap.size w w') => refRow_any h k q cap w' hh hk hsz (hsl.below hb)
  have HW2 := Lib.hid fun w' (hb : Below w.heap.size w w') => refRow_any H K Q C w' hh' hk' hsz' (hsl'.below hb)
  have HSN := Lib.hid fun (hno : (riB h k && riB H K) = false) w' (hb : Below w.heap.size w w') => Same_no h k q cap H K Q C w' hh (hsl.below hb) hk hsz hh' (hsl'.below hb) hk' hsz' hno
  have HSY := Lib.hid fun (r1 : riB h k = true) (r2 : riB H K = true) w' (hb : Below w.heap.size w w') => Same_yes h k q cap H K Q C w' hh (hsl.below hb) hk hsz hh' (hsl'.below hb) hk' hsz' r1 r2
  have HSR := Lib.hid fun (r1 : riB h k = true) (r2 : riB H K = true) w' (hb : Below w.heap.size w w') => refSame_any h k q cap H K Q C w' hh (hsl.below hb) hk hsz hh' (hsl'.below hb) hk' hsz' r1 r2
  have HST := Lib.hid (Bx2.start w h k.len q cap H K.len Q C)
  have HAL := Lib.hid kalive_any
  clear hh hk hsl hsz hh' hk' hsl' hsz'
  unfold riB at HSN HSY HSR
  generalize alk (canT h k) (canT H K) = s at *
  generalize rightB h k 1 = r1 at *
  generalize rightB h k 2 = r2 at *
  generalize rightB H K 1 = r3 at *
  generalize rightB H K 2 = r4 at *
  generalize decide (400 < 1 + k.size) = n1 at *
  generalize decide (400 < 1 + K.size) = n2 at *
  generalize k.len = L at *
  generalize K.len = L' at *
  go_enter Try.func4, Try.ntmps4
  go_wp2_with fail
  refine (HAL.out _).mono ?_
  rintro e w1 ⟨rfl, hb1⟩
  have HX1 := Lib.hid (HST.out.go hb1)
  clear hb1
  obtain ⟨x0, x1, x2, x3, x4, x5, x6, x7⟩ := HX1.out.cells
  cases n1
  case true =>
    go_wp2_with fail
    refine (HM1.out _ HX1.out.below).mono ?_
    rintro e w2 ⟨rfl, hb2⟩
    have HX2 := Lib.hid (HX1.out.go hb2)
    clear hb2
    go_wp2
    go_ret
    exact ⟨rfl, HX2.out.below⟩
  case false =>
    go_wp2_with fail
    refine (HM1.out _ HX1.out.below).mono ?_
    rintro e w2 ⟨rfl, hb2⟩
    have HX2 := Lib.hid (HX1.out.go hb2)
    clear hb2 x0 x1 x2 x3 x4 x5 x6 x7
    obtain ⟨x0, x1, x2, x3, x4, x5, x6, x7⟩ := HX2.out.cells
    cases n2
    case true =>
      go_wp2_with fail
      refine (HM2.out _ HX2.out.below).mono ?_
      rintro e w3 ⟨rfl, hb3⟩
      have HX3 := Lib.hid (HX2.out.go hb3)
      clear hb3
      go_wp2
      go_ret
      exact ⟨rfl, HX3.out.below⟩
    case false =>
      go_wp2_with fail
      refine (HM2.out _ HX2.out.below).mono ?_
      rintro e w3 ⟨rfl, hb3⟩
      have HX := Lib.hid (HX2.out.go hb3)
      clear hb3 x0 x1 x2 x3 x4 x5 x6 x7
      obtain ⟨x0, x1, x2, x3, x4, x5, x6, x7⟩ := HX.out.cells
      clear HX1 HX2
      cases r1 <;> cases r2 <;> cases r3 <;> cases r4
      all_goals
        go_wp2_with (first
          | (go_at_call_of 14 (Value.int .u8 h.op); refine (HR1.out _ HX.out.below).mono ?_; rintro e w' ⟨rfl, hb⟩; replace HX := Lib.hid (HX.out.go hb); clear hb x0 x1 x2 x3 x4 x5 x6 x7; obtain ⟨x0, x1, x2, x3, x4, x5, x6, x7⟩ := HX.out.cells)
          | (go_at_call_of 14 (Value.int .u8 H.op); refine (HR2.out _ HX.out.below).mono ?_; rintro e w' ⟨rfl, hb⟩; replace HX := Lib.hid (HX.out.go hb); clear hb x0 x1 x2 x3 x4 x5 x6 x7; obtain ⟨x0, x1, x2, x3, x4, x5, x6, x7⟩ := HX.out.cells)
          | (go_at_call_of 15 (Value.int .u8 h.op); refine (HW1.out _ HX.out.below).mono ?_; rintro e w' ⟨rfl, hb⟩; replace HX := Lib.hid (HX.out.go hb); clear hb x0 x1 x2 x3 x4 x5 x6 x7; obtain ⟨x0, x1, x2, x3, x4, x5, x6, x7⟩ := HX.out.cells)
          | (go_at_call_of 15 (Value.int .u8 H.op); refine (HW2.out _ HX.out.below).mono ?_; rintro e w' ⟨rfl, hb⟩; replace HX := Lib.hid (HX.out.go hb); clear hb x0 x1 x2 x3 x4 x5 x6 x7; obtain ⟨x0, x1, x2, x3, x4, x5, x6, x7⟩ := HX.out.cells)
          | (go_at_call 19; first
              | (refine (HSY.out rfl rfl _ HX.out.below).mono ?_; rintro e w' ⟨rfl, hb⟩; replace HX := Lib.hid (HX.out.go hb); clear hb x0 x1 x2 x3 x4 x5 x6 x7; obtain ⟨x0, x1, x2, x3, x4, x5, x6, x7⟩ := HX.out.cells)
              | (refine (HSN.out rfl _ HX.out.below).mono ?_; rintro e w' ⟨rfl, hb⟩; replace HX := Lib.hid (HX.out.go hb); clear hb x0 x1 x2 x3 x4 x5 x6 x7; obtain ⟨x0, x1, x2, x3, x4, x5, x6, x7⟩ := HX.out.cells))
          | (go_at_call 25; refine (HSR.out rfl rfl _ HX.out.below).mono ?_; rintro e w' ⟨rfl, hb⟩; replace HX := Lib.hid (HX.out.go hb); clear hb x0 x1 x2 x3 x4 x5 x6 x7; obtain ⟨x0, x1, x2, x3, x4, x5, x6, x7⟩ := HX.out.cells))
        go_ret
        exact ⟨ret_bool (by simp), HX.out.below⟩
end Go.Proofs.Ytjajnlmnkefhbaa
