/- The stable sort of fields: symMerge. -/
import Derived.Test.YtaaohaihajccgaaKsB
import Derived.Deep.RegionHeld3
namespace Go.Proofs.Ytaaohaihajccgaa
open Go.RowKit LM
set_option linter.unusedVariables false

/-- Less by name. -/
def ltF (x y : Fld) : Bool := decide (fldCmp x y < 0)

theorem grown_cmp {W w w2 : World} {g : Nat} (h : W.grownBy w (some g)) (hb : Below w.heap.size w w2) : W.grownBy w2 (some g) :=
  ⟨hb.os.trans h.os, hb.tape.trans h.tape, hb.output.trans h.output, Nat.le_trans h.size hb.size, fun k hk hne => (hb.block k (Nat.lt_of_lt_of_le hk h.size)).trans (h.block k hk hne)⟩
theorem cmp_below (x y : Fld) (w : World) : Calls Try.prog 73 #[.agg #[.string x.name, .int .u8 x.h.op, .string x.h.name, .int .i64 x.h.n, .slice x.q x.k.len x.cap], .agg #[.string y.name, .int .u8 y.h.op, .string y.h.name, .int .i64 y.h.n, .slice y.q y.k.len y.cap]] w
    fun e w' => e = .returned (.int .i64 (fldCmp x y)) ∧ Below w.heap.size w w' :=
  (cmp_any x y w).mono fun e w' hh => ⟨hh.1, by rw [hh.2]; exact (below_box _ _).alloc (by simp) _⟩

/-- What a comparison reads, kept while others make memory. -/
theorem cmp_keep {wr : World} {B g cap : Nat} {fs : List Fld} (h : FlAt wr B g cap fs) {u v : Nat} {fa fb : Fld} (hu : fs[u]? = some fa) (hv : fs[v]? = some fb) : ∀ w', Below wr.heap.size wr w' → Below wr.heap.size wr w' ∧ w'.cell? ⟨g, u * 5, none⟩ = some (.string fa.name) ∧ w'.cell? ⟨g, u * 5 + 1, none⟩ = some (.int .u8 fa.h.op) ∧ w'.cell? ⟨g, u * 5 + 2, none⟩ = some (.string fa.h.name) ∧ w'.cell? ⟨g, u * 5 + 3, none⟩ = some (.int .i64 fa.h.n) ∧ w'.cell? ⟨g, u * 5 + 4, none⟩ = some (.slice fa.q fa.k.len fa.cap) ∧ w'.cell? ⟨g, v * 5, none⟩ = some (.string fb.name) ∧ w'.cell? ⟨g, v * 5 + 1, none⟩ = some (.int .u8 fb.h.op) ∧ w'.cell? ⟨g, v * 5 + 2, none⟩ = some (.string fb.h.name) ∧ w'.cell? ⟨g, v * 5 + 3, none⟩ = some (.int .i64 fb.h.n) ∧ w'.cell? ⟨g, v * 5 + 4, none⟩ = some (.slice fb.q fb.k.len fb.cap) := fun w' hb => by
  obtain ⟨lu, rfl⟩ := List.getElem?_eq_some_iff.1 hu
  obtain ⟨lv, rfl⟩ := List.getElem?_eq_some_iff.1 hv
  obtain ⟨x0, x1, x2, x3, x4⟩ := (h.kept hb).cells lu
  obtain ⟨y0, y1, y2, y3, y4⟩ := (h.kept hb).cells lv
  exact ⟨hb, x0, x1, x2, x3, x4, y0, y1, y2, y3, y4⟩
theorem cmp_call (wr : World) (x y : Fld) (c : Int) (hc : fldCmp x y = c) : ∀ w', Below wr.heap.size wr w' → Calls Try.prog 73 #[.agg #[.string x.name, .int .u8 x.h.op, .string x.h.name, .int .i64 x.h.n, .slice x.q x.k.len x.cap], .agg #[.string y.name, .int .u8 y.h.op, .string y.h.name, .int .i64 y.h.n, .slice y.q y.k.len y.cap]] w'
    fun e w2 => e = .returned (.int .i64 c) ∧ Below wr.heap.size wr w2 := fun w' hb => by
  rw [← hc]
  exact (cmp_below x y w').mono fun e w2 hh => ⟨hh.1, hb.trans (hh.2.mono hb.size)⟩

set_option maxRecDepth 100000 in
set_option maxHeartbeats 4000000 in
theorem symMerge_one (W : World) (B g cap : Nat) (P R S : List Fld) (x : Fld) (a m b N : Nat) (h : FlAt W B g cap (P ++ [x] ++ R ++ S)) (hN : (P ++ [x] ++ R ++ S).length = N) (ha : a = P.length) (hm : m = a + 1) (hb : b = m + R.length) (hl : N ≤ 1099511627776) (hR : Ris ltF R) (ho : Ord ltF) :
    Calls Try.prog 90 #[.slice (some ⟨g, 0, none⟩) N cap, .int .i64 a, .int .i64 m, .int .i64 b, .func (.func 73) #[] #[]] W fun e w' => e = .returned (.tuple #[]) ∧ FlAt w' B g cap (P ++ mrg ltF [x] R ++ S) ∧ W.grownBy w' (some g) := by
  have HF := Lib.hid h
  have hbN : b ≤ N := by rw [← hN]; simp; omega
  have HN := Lib.hid hN
  have e1 : (m : Int) - (a : Int) = 1 := by omega
  have hma : m ≤ b := by omega
  have HA := Lib.hid ha
  have HM := Lib.hid hm
  have HB := Lib.hid hb
  clear h hN ha hm hb
  go_enter Try.func90, Try.ntmps90
  go_wp2
  go_loopw [10, 11] (fun vi vj wr => ∃ i j : Nat, vi = .int .i64 i ∧ vj = .int .i64 j ∧ m ≤ i ∧ i ≤ j ∧ j ≤ b ∧ Hid (∀ t, (ht : t < R.length) → (m + t < i → ltF R[t] x = true) ∧ (j ≤ m + t → ltF R[t] x = false)) ∧ FlAt wr B g cap (P ++ [x] ++ R ++ S) ∧ W.grownBy wr (some g)) (fun vi vj _ => (intOf vj).toNat - (intOf vi).toNat)
  case atStart => exact ⟨m, b, rfl, rfl, Nat.le_refl _, hma, Nat.le_refl _, Lib.hid (fun t ht => ⟨fun h => by omega, fun h => by have := HB.out; omega⟩), HF.out, ⟨rfl, rfl, rfl, Nat.le_refl _, fun _ _ _ => rfl⟩⟩
  case round =>
    obtain ⟨i, j, rfl, rfl, hmi, hij, hjb, HT, hfl, hgr⟩ := hrel
    have HFL := Lib.hid hfl
    have HGR := Lib.hid hgr
    clear hfl hgr
    by_cases hlt : i < j
    · obtain ⟨y, hy⟩ : ∃ y, (i + j) / 2 = y := ⟨_, rfl⟩
      have p0 : (0 : Int) ≤ (i : Int) + (j : Int) := by omega
      have eh : ((i : Int) + (j : Int)) / 2 = (y : Int) := by omega
      have y0 : i ≤ y := by omega
      have y1 : y < j := by omega
      have y2 : y < N := by omega
      have hai : (a : Int) < (N : Int) := by omega
      clear hy
      have hyR : y - m < R.length := by have := HB.out; omega
      have HJ := Lib.hid (cmp_keep HFL.out (u := y) (v := a) (fa := R[y - m]) (fb := x) (by
        have := HA.out; have := HM.out
        rw [List.append_assoc, List.getElem?_append_right (by simp; omega), List.getElem?_append_left (by simp; omega), show y - (P ++ [x]).length = y - m by simp; omega]
        exact List.getElem?_eq_getElem hyR) (by
        have := HA.out
        rw [List.append_assoc, List.append_assoc, List.getElem?_append_right (by omega), show a - P.length = 0 by omega]; rfl))
      have hT := HT.out (y - m) hyR
      have hsplit : (ltF R[y - m] x = true → Hid (∀ t, (ht : t < R.length) → (m + t < y + 1 → ltF R[t] x = true) ∧ (j ≤ m + t → ltF R[t] x = false))) ∧ (ltF R[y - m] x = false → Hid (∀ t, (ht : t < R.length) → (m + t < i → ltF R[t] x = true) ∧ (y ≤ m + t → ltF R[t] x = false))) := by
        refine ⟨fun h1 => Lib.hid fun t ht => ⟨fun h2 => ?_, (HT.out t ht).2⟩, fun h1 => Lib.hid fun t ht => ⟨(HT.out t ht).1, fun h2 => ?_⟩⟩
        · by_cases ht2 : t = y - m
          · subst ht2; exact h1
          · have h3 : ltF R[y - m] R[t] = false := List.pairwise_iff_getElem.1 hR t (y - m) ht hyR (by omega)
            rcases ho.neg _ _ R[t] h1 with h4 | h4
            · rw [h3] at h4; cases h4
            · exact h4
        · by_cases ht2 : t = y - m
          · subst ht2; exact h1
          · have h3 : ltF R[t] R[y - m] = false := List.pairwise_iff_getElem.1 hR (y - m) t hyR ht (by omega)
            exact ho.le_tr h1 h3
      have HSP := Lib.hid hsplit
      clear hsplit hT
      obtain ⟨c, hc⟩ : ∃ c, fldCmp R[y - m] x = c := ⟨_, rfl⟩
      have HC := Lib.hid (cmp_call wr R[y - m] x c hc)
      have HCC : Hid (ltF R[y - m] x = decide (c < 0)) := Lib.hid (by unfold ltF; rw [hc])
      clear hc
      by_cases hc0 : c < 0
      · have hd : decide (c < 0) = true := decide_eq_true hc0
        have HS := Lib.hid (HSP.out.1 (by rw [HCC.out, hd]))
        generalize R[y - m] = fy at *
        go_wp2
        go_region_held3 (fun w' => Below wr.heap.size wr w' ∧ w'.cell? ⟨g, y * 5, none⟩ = some (.string fy.name) ∧ w'.cell? ⟨g, y * 5 + 1, none⟩ = some (.int .u8 fy.h.op) ∧ w'.cell? ⟨g, y * 5 + 2, none⟩ = some (.string fy.h.name) ∧ w'.cell? ⟨g, y * 5 + 3, none⟩ = some (.int .i64 fy.h.n) ∧ w'.cell? ⟨g, y * 5 + 4, none⟩ = some (.slice fy.q fy.k.len fy.cap) ∧ w'.cell? ⟨g, a * 5, none⟩ = some (.string x.name) ∧ w'.cell? ⟨g, a * 5 + 1, none⟩ = some (.int .u8 x.h.op) ∧ w'.cell? ⟨g, a * 5 + 2, none⟩ = some (.string x.h.name) ∧ w'.cell? ⟨g, a * 5 + 3, none⟩ = some (.int .i64 x.h.n) ∧ w'.cell? ⟨g, a * 5 + 4, none⟩ = some (.slice x.q x.k.len x.cap)) ((refine HJ.out _ ?_; (first | assumption | exact (below_drewN (Below.refl _ _) _).drew | exact below_drewN (Below.refl _ _) _ | exact (Below.refl _ _).drew | exact Below.refl _ _ | (go_split_ands; assumption)))) (first | (go_at_call 73; (with_reducible refine (HC.out _ ?_).mono ?_); (first | assumption | exact (below_drewN (Below.refl _ _) _).drew | exact below_drewN (Below.refl _ _) _ | exact (Below.refl _ _).drew | exact Below.refl _ _ | (go_split_ands; assumption)); rintro e w21 ⟨rfl, hc21⟩))
        rename_i hH
        have HBH := Lib.hid hH.1
        clear hH
        go_wp2
        go_roundw
        case rel => exact ⟨y + 1, j, by go_num, rfl, by omega, by omega, hjb, HS.out, HFL.out.kept HBH.out, grown_cmp HGR.out HBH.out⟩
        case measure => simp [intOf]; omega
      · have hd : decide (c < 0) = false := decide_eq_false hc0
        have HS := Lib.hid (HSP.out.2 (by rw [HCC.out, hd]))
        generalize R[y - m] = fy at *
        go_wp2
        go_region_held3 (fun w' => Below wr.heap.size wr w' ∧ w'.cell? ⟨g, y * 5, none⟩ = some (.string fy.name) ∧ w'.cell? ⟨g, y * 5 + 1, none⟩ = some (.int .u8 fy.h.op) ∧ w'.cell? ⟨g, y * 5 + 2, none⟩ = some (.string fy.h.name) ∧ w'.cell? ⟨g, y * 5 + 3, none⟩ = some (.int .i64 fy.h.n) ∧ w'.cell? ⟨g, y * 5 + 4, none⟩ = some (.slice fy.q fy.k.len fy.cap) ∧ w'.cell? ⟨g, a * 5, none⟩ = some (.string x.name) ∧ w'.cell? ⟨g, a * 5 + 1, none⟩ = some (.int .u8 x.h.op) ∧ w'.cell? ⟨g, a * 5 + 2, none⟩ = some (.string x.h.name) ∧ w'.cell? ⟨g, a * 5 + 3, none⟩ = some (.int .i64 x.h.n) ∧ w'.cell? ⟨g, a * 5 + 4, none⟩ = some (.slice x.q x.k.len x.cap)) ((refine HJ.out _ ?_; (first | assumption | exact (below_drewN (Below.refl _ _) _).drew | exact below_drewN (Below.refl _ _) _ | exact (Below.refl _ _).drew | exact Below.refl _ _ | (go_split_ands; assumption)))) (first | (go_at_call 73; (with_reducible refine (HC.out _ ?_).mono ?_); (first | assumption | exact (below_drewN (Below.refl _ _) _).drew | exact below_drewN (Below.refl _ _) _ | exact (Below.refl _ _).drew | exact Below.refl _ _ | (go_split_ands; assumption)); rintro e w21 ⟨rfl, hc21⟩))
        rename_i hH
        have HBH := Lib.hid hH.1
        clear hH
        go_wp2
        go_roundw
        case rel => exact ⟨i, y, rfl, rfl, hmi, by omega, by omega, HS.out, HFL.out.kept HBH.out, grown_cmp HGR.out HBH.out⟩
        case measure => simp [intOf]; omega
    · have hje : j = i := by omega
      subst hje
      have hm1 : 1 ≤ m := by have := HM.out; omega
      have ez : (j : Int) - 1 = ((j - 1 : Nat) : Int) := by omega
      have hst : FlAt wr B g cap (P ++ R.take 0 ++ [x] ++ R.drop 0 ++ S) := by have := HFL.out; simpa using this
      have HST := Lib.hid hst
      have haj : a ≤ j - 1 := by have := HM.out; omega
      clear hst
      go_wp2
      go_loopw [13] (fun vk wx => ∃ k : Nat, vk = .int .i64 k ∧ a ≤ k ∧ k ≤ j - 1 ∧ FlAt wx B g cap (P ++ R.take (k - a) ++ [x] ++ R.drop (k - a) ++ S) ∧ W.grownBy wx (some g)) (fun vk _ => j - (intOf vk).toNat)
      case atStart => exact ⟨a, rfl, Nat.le_refl _, haj, by rw [Nat.sub_self]; exact HST.out, HGR.out⟩
      case round =>
        obtain ⟨k, rfl, hak, hkj, hfl, hgr⟩ := hrel
        have HFK := Lib.hid hfl
        have HGK := Lib.hid hgr
        clear hfl hgr
        have hmm := HM.out
        have hbb := HB.out
        have haa := HA.out
        by_cases hlt2 : k < j - 1
        · have hkR : k - a < R.length := by omega
          have hlen : (P ++ R.take (k - a) ++ [x] ++ R.drop (k - a) ++ S).length = N := by rw [← HN.out]; simp; omega
          have hi : k < (P ++ R.take (k - a) ++ [x] ++ R.drop (k - a) ++ S).length := by rw [hlen]; omega
          have hj : k + 1 < (P ++ R.take (k - a) ++ [x] ++ R.drop (k - a) ++ S).length := by rw [hlen]; omega
          obtain ⟨x0, x1, x2, x3, x4⟩ := HFK.out.cells hi
          obtain ⟨y0, y1, y2, y3, y4⟩ := HFK.out.cells hj
          have HZ := Lib.hid (HFK.out.swap hi hj)
          have hsw : swF (P ++ R.take (k - a) ++ [x] ++ R.drop (k - a) ++ S) k (k + 1) = P ++ R.take (k + 1 - a) ++ [x] ++ R.drop (k + 1 - a) ++ S := by
            have e1 : P ++ R.take (k - a) ++ [x] ++ R.drop (k - a) ++ S = (P ++ R.take (k - a)) ++ x :: ([] ++ R[k - a] :: (R.drop (k - a + 1) ++ S)) := by
              rw [List.drop_eq_getElem_cons hkR]; simp only [List.append_assoc, List.cons_append, List.nil_append]
            rw [e1, swF_eq _ _ _ _ _ (by simp; omega) (by simp; omega), show k + 1 - a = k - a + 1 by omega, List.take_succ_eq_append_getElem hkR]
            simp only [List.append_assoc, List.cons_append, List.nil_append]
          have HSW := Lib.hid hsw
          have hz : ∀ o, wr.frozen? ⟨g, o, none⟩ = false := fun o => HFK.out.frozen o
          have p0 : (0 : Int) ≤ (k : Int) + 1 := by omega
          have p1 : (k : Int) + 1 < (N : Int) := by omega
          have p2 : ((k : Int) + 1).toNat = k + 1 := by omega
          have p3 : (k : Int) < (N : Int) := by omega
          have n00 : ¬ (k * 5 = (k + 1) * 5) := by omega
          have n01 : ¬ (k * 5 = (k + 1) * 5 + 1) := by omega
          have n02 : ¬ (k * 5 = (k + 1) * 5 + 2) := by omega
          have n03 : ¬ (k * 5 = (k + 1) * 5 + 3) := by omega
          have n04 : ¬ (k * 5 = (k + 1) * 5 + 4) := by omega
          have n10 : ¬ (k * 5 + 1 = (k + 1) * 5) := by omega
          have n11 : ¬ (k * 5 + 1 = (k + 1) * 5 + 1) := by omega
          have n12 : ¬ (k * 5 + 1 = (k + 1) * 5 + 2) := by omega
          have n13 : ¬ (k * 5 + 1 = (k + 1) * 5 + 3) := by omega
          have n14 : ¬ (k * 5 + 1 = (k + 1) * 5 + 4) := by omega
          have n20 : ¬ (k * 5 + 2 = (k + 1) * 5) := by omega
          have n21 : ¬ (k * 5 + 2 = (k + 1) * 5 + 1) := by omega
          have n22 : ¬ (k * 5 + 2 = (k + 1) * 5 + 2) := by omega
          have n23 : ¬ (k * 5 + 2 = (k + 1) * 5 + 3) := by omega
          have n24 : ¬ (k * 5 + 2 = (k + 1) * 5 + 4) := by omega
          have n30 : ¬ (k * 5 + 3 = (k + 1) * 5) := by omega
          have n31 : ¬ (k * 5 + 3 = (k + 1) * 5 + 1) := by omega
          have n32 : ¬ (k * 5 + 3 = (k + 1) * 5 + 2) := by omega
          have n33 : ¬ (k * 5 + 3 = (k + 1) * 5 + 3) := by omega
          have n34 : ¬ (k * 5 + 3 = (k + 1) * 5 + 4) := by omega
          have n40 : ¬ (k * 5 + 4 = (k + 1) * 5) := by omega
          have n41 : ¬ (k * 5 + 4 = (k + 1) * 5 + 1) := by omega
          have n42 : ¬ (k * 5 + 4 = (k + 1) * 5 + 2) := by omega
          have n43 : ¬ (k * 5 + 4 = (k + 1) * 5 + 3) := by omega
          have n44 : ¬ (k * 5 + 4 = (k + 1) * 5 + 4) := by omega
          clear hsw hlen hmm hbb haa
          generalize (P ++ R.take (k - a) ++ [x] ++ R.drop (k - a) ++ S)[k] = fa at *
          generalize (P ++ R.take (k - a) ++ [x] ++ R.drop (k - a) ++ S)[k + 1] = fb at *
          go_wp2
          go_big_region
          go_wp2
          go_roundw
          case rel => exact ⟨k + 1, by go_num, by omega, by omega, by rw [← HSW.out]; exact HZ.out.1.drew, grown_drew (grown_again HGK.out HZ.out.2)⟩
          case measure => simp [intOf]; omega
        · have hke : k = j - 1 := by omega
          have HK := Lib.hid hke
          clear hke hmm hbb haa
          go_wp2
          refine bodyPost_ret (results_none rfl _ _ _) rfl ⟨rfl, ?_, HGK.out⟩
          have hf := HFK.out
          have hmm := HM.out
          rw [HK.out, show j - 1 - a = j - m by omega] at hf
          have hmr : mrg ltF [x] R = R.take (j - m) ++ x :: R.drop (j - m) := by
            have := one_mrg (lt := ltF) x (R.take (j - m)) (R.drop (j - m)) (fun y hy => by
              obtain ⟨t, ht, rfl⟩ := List.mem_iff_getElem.1 hy
              simp at ht
              rw [List.getElem_take]
              exact (HT.out t (by omega)).1 (by omega)) (fun y hy => by
              obtain ⟨t, ht, rfl⟩ := List.mem_iff_getElem.1 hy
              simp at ht
              rw [List.getElem_drop]
              exact (HT.out (j - m + t) (by omega)).2 (by omega))
            rwa [List.take_append_drop] at this
          rw [hmr]
          simpa using hf
end Go.Proofs.Ytaaohaihajccgaa
