/- KindsRight: the law's walk. -/
import Derived.Test.YtaaohaihajccgaaKdZ
import Derived.Test.YtaaohaihajccgaaKdS
import Derived.Deep.RegionWith
import Derived.Deep.RegionHeld3
namespace Go.Proofs.Ytaaohaihajccgaa
open Go.RowKit LM
set_option linter.unusedVariables false

/-- A tree that lies in memory, no greater than Go bears. -/
structure TyIs (w : World) (h : Hd) (k : Fo) (q : Option Addr) (cap : Nat) : Prop where
  hh : h.ok
  hk : k.ok
  sl : SlF w q cap k
  sz : 1 + k.size ≤ 1099511627776

theorem Parts_len (h : Hd) (k : Fo) (q : Option Addr) (cap : Nat) (w : World) (hsz : 1 + k.size ≤ 1099511627776) (hsl : SlF w q cap k) :
    Calls Try.prog 16 #[.agg #[.int .u8 h.op, .string h.name, .int .i64 h.n, .slice q k.len cap]] w fun e w' => ∃ a cp, e = .returned (.slice a (1 + k.size) cp) ∧ Below w.heap.size w w' :=
  (Parts_any (k.size + 1) h k q cap w (by omega) hsz hsl).mono fun e w' ⟨v, ps, he, hown, hps, hb⟩ => by
    obtain ⟨g, cp, cur, rfl, _⟩ := own_some hown (by omega)
    exact ⟨_, cp, he, hb⟩

set_option maxRecDepth 100000 in
set_option maxHeartbeats 4000000 in
theorem law_right (h : Hd) (k : Fo) (q : Option Addr) (cap : Nat) (w : World) (ht : TyIs w h k q cap) :
    Calls Try.prog 3 #[.agg #[.int .u8 h.op, .string h.name, .int .i64 h.n, .slice q k.len cap]] w fun e w' => e = .returned (.bool true) ∧ Below w.heap.size w w' := by
  obtain ⟨hh, hk, hsl, hsz⟩ := ht
  have HM := Lib.hid fun w' (hb : Below w.heap.size w w') => many_any h k q cap w' hsz (hsl.below hb)
  have H1 := Lib.hid fun w' (hb : Below w.heap.size w w') => Right_any h k q cap w' hh (hsl.below hb) hk hsz
  have H2 := Lib.hid fun w' (hb : Below w.heap.size w w') => refRight_any h k q cap w' hh hk hsz (hsl.below hb)
  have H3 := Lib.hid fun w' (hb : Below w.heap.size w w') => Row_any h k q cap w' hh (hsl.below hb) hk hsz
  have H4 := Lib.hid fun w' (hb : Below w.heap.size w w') => refRow_any h k q cap w' hh hk hsz (hsl.below hb)
  have H5 := Lib.hid fun w' (hb : Below w.heap.size w w') => Size_any h k q cap w' hh (hsl.below hb) hk hsz
  have H6 := Lib.hid fun w' (hb : Below w.heap.size w w') => Parts_len h k q cap w' hsz (hsl.below hb)
  clear hh hk hsl
  generalize rightB h k 1 = r1 at *
  generalize rightB h k 2 = r2 at *
  generalize 1 + k.size = N at *
  generalize k.len = L at *
  generalize h.op = o at *
  generalize h.name = nm at *
  generalize h.n = n at *
  go_enter Try.func3, Try.ntmps3
  go_wp2_with fail
  refine (kalive_any _).mono ?_
  rintro e w1 ⟨rfl, hb1⟩
  obtain ⟨hbc, hbf⟩ := bcell hb1
  have hx1 := (hb1.block w.heap.size (by simp)).trans (World.alloc_heap_new w _)
  have HB1 := Lib.hid (below_then (below_box _ _) hb1)
  clear hb1 hbc hbf
  obtain ⟨y0, y1, y2, y3, _⟩ := row4 hx1
  go_wp2_with fail
  refine (HM.out _ HB1.out).mono ?_
  rintro e wb ⟨rfl, hb2⟩
  have hl1 := (Array.getElem?_eq_some_iff.1 hx1).1
  have hxb := (hb2.block w.heap.size hl1).trans hx1
  have HB2 := Lib.hid (below_go2 HB1.out hb2)
  have HX := Lib.hid hxb
  clear hb2 hx1 y0 y1 y2 y3 hl1
  obtain ⟨y0, y1, y2, y3, _⟩ := row4 hxb
  clear hxb
  by_cases hN : 400 < N
  · go_wp2
    go_ret
    exact ⟨rfl, HB2.out⟩
  · have hJ : ∀ w', Below wb.heap.size wb w' → Below wb.heap.size wb w' ∧ w'.cell? ⟨w.heap.size, 0, none⟩ = some (.int .u8 o) ∧ w'.cell? ⟨w.heap.size, 1, none⟩ = some (.string nm) ∧ w'.cell? ⟨w.heap.size, 2, none⟩ = some (.int .i64 n) ∧ w'.cell? ⟨w.heap.size, 3, none⟩ = some (.slice q L cap) := fun w' hb => by
      have hl := (Array.getElem?_eq_some_iff.1 HX.out).1
      obtain ⟨z0, z1, z2, z3, _⟩ := row4 ((hb.block w.heap.size hl).trans HX.out)
      exact ⟨hb, z0, z1, z2, z3⟩
    have HJ := Lib.hid hJ
    have G1 := Lib.hid fun w' (hb : Below wb.heap.size wb w') => (H1.out w' (below_go2 HB2.out hb)).mono fun e w2 hh => And.intro hh.1 (below_go2 hb hh.2)
    have G2 := Lib.hid fun w' (hb : Below wb.heap.size wb w') => (H2.out w' (below_go2 HB2.out hb)).mono fun e w2 hh => And.intro hh.1 (below_go2 hb hh.2)
    have G3 := Lib.hid fun w' (hb : Below wb.heap.size wb w') => (H3.out w' (below_go2 HB2.out hb)).mono fun e w2 hh => And.intro hh.1 (below_go2 hb hh.2)
    have G4 := Lib.hid fun w' (hb : Below wb.heap.size wb w') => (H4.out w' (below_go2 HB2.out hb)).mono fun e w2 hh => And.intro hh.1 (below_go2 hb hh.2)
    have G5 := Lib.hid fun w' (hb : Below wb.heap.size wb w') => (H5.out w' (below_go2 HB2.out hb)).mono fun e w2 hh => And.intro hh.1 (below_go2 hb hh.2)
    have G6 := Lib.hid fun w' (hb : Below wb.heap.size wb w') => (H6.out w' (below_go2 HB2.out hb)).mono fun e w2 ⟨a, cp, he, h2⟩ => (⟨a, cp, he, below_go2 hb h2⟩ : ∃ a cp, e = Ending.returned (.slice a N cp) ∧ Below wb.heap.size wb w2)
    clear hJ H1 H2 H3 H4 H5 H6 HM HX
    go_wp2_with fail
    go_region_held3 (fun w' => Below wb.heap.size wb w' ∧ w'.cell? ⟨w.heap.size, 0, none⟩ = some (.int .u8 o) ∧ w'.cell? ⟨w.heap.size, 1, none⟩ = some (.string nm) ∧ w'.cell? ⟨w.heap.size, 2, none⟩ = some (.int .i64 n) ∧ w'.cell? ⟨w.heap.size, 3, none⟩ = some (.slice q L cap)) ((refine HJ.out _ ?_; (first | assumption | exact (below_drewN (Below.refl _ _) _).drew | exact below_drewN (Below.refl _ _) _ | exact (Below.refl _ _).drew | exact Below.refl _ _ | (go_split_ands; assumption)))) (first | (go_at_call 11; refine (G1.out _ ?_).mono ?_; (first | assumption | exact (below_drewN (Below.refl _ _) _).drew | exact below_drewN (Below.refl _ _) _ | exact (Below.refl _ _).drew | exact Below.refl _ _ | (go_split_ands; assumption)); rintro e w1' ⟨rfl, hc1⟩) | (go_at_call 12; refine (G2.out _ ?_).mono ?_; (first | assumption | exact (below_drewN (Below.refl _ _) _).drew | exact below_drewN (Below.refl _ _) _ | exact (Below.refl _ _).drew | exact Below.refl _ _ | (go_split_ands; assumption)); rintro e w2' ⟨rfl, hc2⟩) | (go_at_call 13; refine (G3.out _ ?_).mono ?_; (first | assumption | exact (below_drewN (Below.refl _ _) _).drew | exact below_drewN (Below.refl _ _) _ | exact (Below.refl _ _).drew | exact Below.refl _ _ | (go_split_ands; assumption)); rintro e w3' ⟨rfl, hc3⟩) | (go_at_call 14; refine (G4.out _ ?_).mono ?_; (first | assumption | exact (below_drewN (Below.refl _ _) _).drew | exact below_drewN (Below.refl _ _) _ | exact (Below.refl _ _).drew | exact Below.refl _ _ | (go_split_ands; assumption)); rintro e w4' ⟨rfl, hc4⟩) | (go_at_call 15; refine (G5.out _ ?_).mono ?_; (first | assumption | exact (below_drewN (Below.refl _ _) _).drew | exact below_drewN (Below.refl _ _) _ | exact (Below.refl _ _).drew | exact Below.refl _ _ | (go_split_ands; assumption)); rintro e w5' ⟨rfl, hc5⟩) | (go_at_call 16; refine (G6.out _ ?_).mono ?_; (first | assumption | exact (below_drewN (Below.refl _ _) _).drew | exact below_drewN (Below.refl _ _) _ | exact (Below.refl _ _).drew | exact Below.refl _ _ | (go_split_ands; assumption)); rintro e w6' ⟨a6, cp6, rfl, hc6⟩))
    rename_i hH
    have HBH := Lib.hid hH.1
    clear hH
    go_wp2
    go_ret
    exact ⟨rfl, below_go2 HB2.out HBH.out⟩

end Go.Proofs.Ytaaohaihajccgaa
