/- tree.Free. -/
import Derived.Test.YtcjhgefkbnbmnaaPF
import Derived.Test.YtcjhgefkbnbmnaaPTmR
import Derived.Test.YtcjhgefkbnbmnaaPIter
namespace Go.Proofs.Ytcjhgefkbnbmnaa
open Go.RowKit LM
set_option linter.unusedVariables false

theorem FrIs.keys {W : World} {b n : Nat} {l : List (List UInt8)} (h : FrIs W b n l) : ∃ D : DataW Unit, W.ownsMap Try.prog 9 (plainElem Try.prog 4) b n D ∧ Maps.size D ≤ n ∧ l.Perm (strKeys D) := by
  obtain ⟨D, h1, ⟨es, rfl, hp⟩, h3, h4⟩ := h
  refine ⟨.map es, h1, ?_, perm_strKeys hp (fun p hp2 => ?_) h3 (fun x => ?_)⟩
  · obtain ⟨es0, clock, hb, F, hs, hD⟩ := h1
    rw [hD, Maps.size_eq, length_sorted]
    simpa using hs
  · obtain ⟨es1, e1, hk⟩ := h1.keysOf
    cases e1
    obtain ⟨v, hv⟩ := hk p hp2
    obtain ⟨x, _, hx, _⟩ := Maps.keyOf_str Try.underlying9 hv
    exact ⟨x, hx⟩
  · rw [h4 x]; simp

/-- Texts come back, in new memory. -/
def TxPost (w : World) (l : List (List UInt8)) (e : Ending) (w' : World) : Prop := ∃ a c, e = .returned (.slice a l.length c) ∧ TxAt w' a c l ∧ Below w.heap.size w w'

/-- The free names of a right expression, rising. -/
def freeS (h : TH) (k : TF) : List (List UInt8) := (freeT h k (fun _ => 0) []).mergeSort leB

set_option maxRecDepth 100000 in
set_option maxHeartbeats 4000000 in
theorem Free_no (h : TH) (k : TF) (qa : Option Addr) (ca : Nat) (q : Option Addr) (cap : Nat) (w : World) (hh : h.ok) (hok : k.ok) (ha : SlF w qa ca h.ak) (hs : TSl w q cap k) (hsz : 1 + h.ak.size + k.bulk ≤ 1073741824) (hr : trightB h k = false) :
    Calls Try.prog 41 #[.agg (tmV h qa ca q k.len cap)] w (TxPost w []) := by
  have HR := Lib.hid fun w' (hb : Below w.heap.size w w') => TRight_any h k qa ca q cap w' hh hok (ha.below hb) (hs.below hb) hsz
  rw [hr] at HR
  have hbx := World.alloc_heap_new w (.cells (tmV h qa ca q k.len cap) 43)
  have HB0 := Lib.hid (below_box w (.cells (tmV h qa ca q k.len cap) 43))
  clear ha hs hh hok hr
  unfold tmV at *
  obtain ⟨x0, x1, x2, x3, x4, x5, x6, x7, x8, x9⟩ := row10 hbx
  clear hbx
  go_enter Try.func41, Try.ntmps41
  go_wp2_with fail
  refine (HR.out _ HB0.out).mono ?_
  rintro e w1 ⟨rfl, hb1⟩
  have HB1 := Lib.hid (below_go2 HB0.out hb1)
  clear hb1
  go_wp2
  go_ret
  exact ⟨none, 0, rfl, ⟨Nat.zero_le _, Nat.zero_le _, fun h => absurd h (Nat.lt_irrefl _)⟩, HB1.out⟩

set_option maxRecDepth 100000 in
set_option maxHeartbeats 4000000 in
theorem Free_yes (h : TH) (k : TF) (qa : Option Addr) (ca : Nat) (q : Option Addr) (cap : Nat) (w : World) (hh : h.ok) (hok : k.ok) (ha : SlF w qa ca h.ak) (hs : TSl w q cap k) (hsz : 1 + h.ak.size + k.bulk ≤ 1073741824) (hr : trightB h k = true) :
    Calls Try.prog 41 #[.agg (tmV h qa ca q k.len cap)] w (TxPost w (freeS h k)) := by
  have HR := Lib.hid fun w' (hb : Below w.heap.size w w') => TRight_any h k qa ca q cap w' hh hok (ha.below hb) (hs.below hb) hsz
  rw [hr] at HR
  have hmm := @run_makeMap Try.prog
  have hbx := World.alloc_heap_new w (.cells (tmV h qa ca q k.len cap) 43)
  have HBX := Lib.hid hbx
  have HB0 := Lib.hid (below_box w (.cells (tmV h qa ca q k.len cap) 43))
  have HH := Lib.hid hh
  have HOK := Lib.hid hok
  have HSL := Lib.hid hs
  have hlc := hs.lc
  have hcm := hs.cm
  have hkb := TF.size_le_bulk k
  clear ha hs hh hok hr
  unfold tmV at *
  obtain ⟨x0, x1, x2, x3, x4, x5, x6, x7, x8, x9⟩ := row10 hbx
  clear hbx
  go_enter Try.func41, Try.ntmps41
  go_wp2_with fail
  refine (HR.out _ HB0.out).mono ?_
  rintro e w1 ⟨rfl, hb1⟩
  have HB1 := Lib.hid (below_go2 HB0.out hb1)
  have HX1 := Lib.hid ((hb1.block w.heap.size (by simp)).trans HBX.out)
  clear hb1
  have hth : THAt w1 w.heap.size 0 h qa ca q k.len cap := by
    obtain ⟨y0, y1, y2, y3, y4, y5, y6, y7, y8, y9⟩ := row10 HX1.out
    exact ⟨y0, y1, y2, y3, y4, y5, y6, y7, y8, y9, hlc, hcm⟩
  have hdn : DnI w1 (w1.heap.size + 1 + 1) w1.heap.size (w1.heap.size + 1) 0 (fun _ => 0) [] (((w1.alloc (.map #[] 0)).alloc (.map #[] 0)).alloc (.cells #[.map (some w1.heap.size), .map (some (w1.heap.size + 1))] 89)) := by
    have b1 := ((BdIs.start w1).kept (World.grownBy_alloc _ (.map #[] 0) none) (by simp)).kept (World.grownBy_alloc _ (.cells #[.map (some w1.heap.size), .map (some (w1.heap.size + 1))] 89) none) (by simp)
    have b2 := (FrIs.start (w1.alloc (.map #[] 0))).kept (World.grownBy_alloc _ (.cells #[.map (some w1.heap.size), .map (some (w1.heap.size + 1))] 89) none) (by simp)
    have b3 := World.alloc_heap_new ((w1.alloc (.map #[] 0)).alloc (.map #[] 0)) (.cells #[.map (some w1.heap.size), .map (some (w1.heap.size + 1))] 89)
    simp only [World.size_alloc] at b2 b3
    exact ⟨(((Below.refl _ _).alloc (Nat.le_refl _) _).alloc (by simp) _).alloc (by simp; omega) _, by omega, by omega, by omega, by omega, by omega, by omega, b3, b1, b2⟩
  have HDN := Lib.hid (down_any w1 (w1.heap.size + 1 + 1) w1.heap.size (w1.heap.size + 1) (k.size + 1) h k w.heap.size 0 qa ca q cap 0 0 (fun _ => 0) [] _ (by omega) hth (HSL.out.below HB1.out) HH.out HOK.out hdn (by omega) (fun y => by simp) (by omega))
  clear hth hdn x0 x1 x2 x3 x4 x5 x6 x7 x8 x9
  go_wp2_with fail
  refine HDN.out.mono ?_
  rintro e w2 ⟨rfl, hd⟩
  have hbm : w2.cell? ⟨w1.heap.size + 1 + 1, 1, none⟩ = some (.map (some (w1.heap.size + 1))) := by simp [World.cell?, hd.box]
  obtain ⟨D, hown, hsD, hpD⟩ := hd.fr.keys
  have HBW := Lib.hid (below_go2 HB1.out hd.below)
  have HK := Lib.hid (callsIn_wide.1 (Try.maps_Keys_80 (some (w1.heap.size + 1)) w2))
  have HS := Lib.hid (callsIn_wide.1 (Try.slices_Sorted_keys_79_80 (w1.heap.size + 1) _ D _ w2 hown (by unfold maxLen; omega) (by omega)))
  have HPD := Lib.hid hpD
  clear hd hown hpD hsD
  go_wp2_with fail
  refine HK.out.mono ?_
  rintro e w3 ⟨rfl, rfl⟩
  go_wp2_with fail
  refine HS.out.mono ?_
  rintro e w4 ⟨v, ss, rfl, hperm, hrow, _, hb4⟩
  have e1 : ss.mergeSort (fun x y => decide (x ≤ y)) = freeS h k := mergeSort_of_perm (hperm.trans HPD.out.symm)
  rw [e1] at hrow
  obtain ⟨a, c, rfl, htx⟩ := own_tx (by rw [← e1, List.length_mergeSort]) hrow
  have HE : Hid (TxPost w (freeS h k) (.returned (.slice a (freeS h k).length c)) w4) := Lib.hid ⟨a, c, rfl, htx, below_go2 HBW.out (below_go2 (below_box _ _) hb4)⟩
  clear hrow htx hb4 hperm e1
  go_wp2
  go_ret
  exact HE.out
end Go.Proofs.Ytcjhgefkbnbmnaa
