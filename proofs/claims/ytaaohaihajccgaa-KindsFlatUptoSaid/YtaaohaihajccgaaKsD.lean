/- The stable sort of fields: symMerge where the second part has one. -/
import Derived.Test.YtaaohaihajccgaaKsC
namespace Go.Proofs.Ytaaohaihajccgaa
open Go.RowKit LM
set_option linter.unusedVariables false

theorem swF_comm (fs : List Fld) {i j : Nat} (h : i ≠ j) : swF fs i j = swF fs j i := by
  unfold swF; rw [List.set_comm _ _ h]

set_option maxRecDepth 100000 in
set_option maxHeartbeats 4000000 in
theorem symMerge_last (W : World) (B g cap : Nat) (P L S : List Fld) (y : Fld) (a m b N : Nat) (h : FlAt W B g cap (P ++ L ++ [y] ++ S)) (hN : (P ++ L ++ [y] ++ S).length = N) (ha : a = P.length) (hm : m = a + L.length) (hb : b = m + 1) (hl : N ≤ 1099511627776) (hL : Ris ltF L) (hL2 : L.length ≠ 1) (ho : Ord ltF) :
    Calls Try.prog 90 #[.slice (some ⟨g, 0, none⟩) N cap, .int .i64 a, .int .i64 m, .int .i64 b, .func (.func 73) #[] #[]] W fun e w' => e = .returned (.tuple #[]) ∧ FlAt w' B g cap (P ++ mrg ltF L [y] ++ S) ∧ W.grownBy w' (some g) := by
  have HF := Lib.hid h
  have hbN : b ≤ N := by rw [← hN]; simp; omega
  have HN := Lib.hid hN
  have e1 : (m : Int) - (a : Int) = (L.length : Int) := by omega
  have e2 : ((L.length : Int) == 1) = false := by simp; omega
  have e3 : (b : Int) - (m : Int) = 1 := by omega
  have ham : a ≤ m := by omega
  have hmN : m < N := by omega
  have HA := Lib.hid ha
  have HM := Lib.hid hm
  have HB := Lib.hid hb
  clear h hN ha hm hb hL2
  go_enter Try.func90, Try.ntmps90
  go_wp2
  go_loopw [14, 15] (fun vi vj wr => ∃ i j : Nat, vi = .int .i64 i ∧ vj = .int .i64 j ∧ a ≤ i ∧ i ≤ j ∧ j ≤ m ∧ Hid (∀ t, (ht : t < L.length) → (a + t < i → ltF y L[t] = false) ∧ (j ≤ a + t → ltF y L[t] = true)) ∧ FlAt wr B g cap (P ++ L ++ [y] ++ S) ∧ W.grownBy wr (some g)) (fun vi vj _ => (intOf vj).toNat - (intOf vi).toNat)
  case atStart => exact ⟨a, m, rfl, rfl, Nat.le_refl _, ham, Nat.le_refl _, Lib.hid (fun t ht => ⟨fun h => by omega, fun h => by have := HM.out; omega⟩), HF.out, ⟨rfl, rfl, rfl, Nat.le_refl _, fun _ _ _ => rfl⟩⟩
  case round =>
    obtain ⟨i, j, rfl, rfl, hai, hij, hjm, HT, hfl, hgr⟩ := hrel
    have HFL := Lib.hid hfl
    have HGR := Lib.hid hgr
    clear hfl hgr
    by_cases hlt : i < j
    · obtain ⟨u, hu⟩ : ∃ u, (i + j) / 2 = u := ⟨_, rfl⟩
      have p0 : (0 : Int) ≤ (i : Int) + (j : Int) := by omega
      have eh : ((i : Int) + (j : Int)) / 2 = (u : Int) := by omega
      have u0 : i ≤ u := by omega
      have u1 : u < j := by omega
      have u2 : u < N := by omega
      have hmi : (m : Int) < (N : Int) := by omega
      clear hu
      have huL : u - a < L.length := by have := HM.out; omega
      have HJ := Lib.hid (cmp_keep HFL.out (u := m) (v := u) (fa := y) (fb := L[u - a]) (by
        have := HA.out; have := HM.out
        rw [List.append_assoc, List.getElem?_append_right (by simp; omega), show m - (P ++ L).length = 0 by simp; omega]; rfl) (by
        have := HA.out; have := HM.out
        rw [List.append_assoc, List.append_assoc, List.getElem?_append_right (by omega), List.getElem?_append_left (by omega), show u - P.length = u - a by omega]
        exact List.getElem?_eq_getElem huL))
      have hsplit : (ltF y L[u - a] = false → Hid (∀ t, (ht : t < L.length) → (a + t < u + 1 → ltF y L[t] = false) ∧ (j ≤ a + t → ltF y L[t] = true))) ∧ (ltF y L[u - a] = true → Hid (∀ t, (ht : t < L.length) → (a + t < i → ltF y L[t] = false) ∧ (u ≤ a + t → ltF y L[t] = true))) := by
        refine ⟨fun h1 => Lib.hid fun t ht => ⟨fun h2 => ?_, (HT.out t ht).2⟩, fun h1 => Lib.hid fun t ht => ⟨(HT.out t ht).1, fun h2 => ?_⟩⟩
        · by_cases ht2 : t = u - a
          · subst ht2; exact h1
          · have h3 : ltF L[u - a] L[t] = false := List.pairwise_iff_getElem.1 hL t (u - a) ht huL (by omega)
            exact ho.le_tr h3 h1
        · by_cases ht2 : t = u - a
          · subst ht2; exact h1
          · have h3 : ltF L[t] L[u - a] = false := List.pairwise_iff_getElem.1 hL (u - a) t huL ht (by omega)
            rcases ho.neg _ _ L[t] h1 with h4 | h4
            · exact h4
            · rw [h3] at h4; cases h4
      have HSP := Lib.hid hsplit
      clear hsplit
      obtain ⟨c, hc⟩ : ∃ c, fldCmp y L[u - a] = c := ⟨_, rfl⟩
      have HC := Lib.hid (cmp_call wr y L[u - a] c hc)
      have HCC : Hid (ltF y L[u - a] = decide (c < 0)) := Lib.hid (by unfold ltF; rw [hc])
      clear hc
      by_cases hc0 : c < 0
      · have hd : decide (c < 0) = true := decide_eq_true hc0
        have HS := Lib.hid (HSP.out.2 (by rw [HCC.out, hd]))
        generalize L[u - a] = fy at *
        go_wp2
        go_region_held3 (fun w' => Below wr.heap.size wr w' ∧ w'.cell? ⟨g, m * 5, none⟩ = some (.string y.name) ∧ w'.cell? ⟨g, m * 5 + 1, none⟩ = some (.int .u8 y.h.op) ∧ w'.cell? ⟨g, m * 5 + 2, none⟩ = some (.string y.h.name) ∧ w'.cell? ⟨g, m * 5 + 3, none⟩ = some (.int .i64 y.h.n) ∧ w'.cell? ⟨g, m * 5 + 4, none⟩ = some (.slice y.q y.k.len y.cap) ∧ w'.cell? ⟨g, u * 5, none⟩ = some (.string fy.name) ∧ w'.cell? ⟨g, u * 5 + 1, none⟩ = some (.int .u8 fy.h.op) ∧ w'.cell? ⟨g, u * 5 + 2, none⟩ = some (.string fy.h.name) ∧ w'.cell? ⟨g, u * 5 + 3, none⟩ = some (.int .i64 fy.h.n) ∧ w'.cell? ⟨g, u * 5 + 4, none⟩ = some (.slice fy.q fy.k.len fy.cap)) ((refine HJ.out _ ?_; (first | assumption | exact (below_drewN (Below.refl _ _) _).drew | exact below_drewN (Below.refl _ _) _ | exact (Below.refl _ _).drew | exact Below.refl _ _ | (go_split_ands; assumption)))) (first | (go_at_call 73; (with_reducible refine (HC.out _ ?_).mono ?_); (first | assumption | exact (below_drewN (Below.refl _ _) _).drew | exact below_drewN (Below.refl _ _) _ | exact (Below.refl _ _).drew | exact Below.refl _ _ | (go_split_ands; assumption)); rintro e w21 ⟨rfl, hc21⟩))
        rename_i hH
        have HBH := Lib.hid hH.1
        clear hH
        go_wp2
        go_roundw
        case rel => exact ⟨i, u, rfl, rfl, hai, by omega, by omega, HS.out, HFL.out.kept HBH.out, grown_cmp HGR.out HBH.out⟩
        case measure => simp [intOf]; omega
      · have hd : decide (c < 0) = false := decide_eq_false hc0
        have HS := Lib.hid (HSP.out.1 (by rw [HCC.out, hd]))
        generalize L[u - a] = fy at *
        go_wp2
        go_region_held3 (fun w' => Below wr.heap.size wr w' ∧ w'.cell? ⟨g, m * 5, none⟩ = some (.string y.name) ∧ w'.cell? ⟨g, m * 5 + 1, none⟩ = some (.int .u8 y.h.op) ∧ w'.cell? ⟨g, m * 5 + 2, none⟩ = some (.string y.h.name) ∧ w'.cell? ⟨g, m * 5 + 3, none⟩ = some (.int .i64 y.h.n) ∧ w'.cell? ⟨g, m * 5 + 4, none⟩ = some (.slice y.q y.k.len y.cap) ∧ w'.cell? ⟨g, u * 5, none⟩ = some (.string fy.name) ∧ w'.cell? ⟨g, u * 5 + 1, none⟩ = some (.int .u8 fy.h.op) ∧ w'.cell? ⟨g, u * 5 + 2, none⟩ = some (.string fy.h.name) ∧ w'.cell? ⟨g, u * 5 + 3, none⟩ = some (.int .i64 fy.h.n) ∧ w'.cell? ⟨g, u * 5 + 4, none⟩ = some (.slice fy.q fy.k.len fy.cap)) ((refine HJ.out _ ?_; (first | assumption | exact (below_drewN (Below.refl _ _) _).drew | exact below_drewN (Below.refl _ _) _ | exact (Below.refl _ _).drew | exact Below.refl _ _ | (go_split_ands; assumption)))) (first | (go_at_call 73; (with_reducible refine (HC.out _ ?_).mono ?_); (first | assumption | exact (below_drewN (Below.refl _ _) _).drew | exact below_drewN (Below.refl _ _) _ | exact (Below.refl _ _).drew | exact Below.refl _ _ | (go_split_ands; assumption)); rintro e w21 ⟨rfl, hc21⟩))
        rename_i hH
        have HBH := Lib.hid hH.1
        clear hH
        go_wp2
        go_roundw
        case rel => exact ⟨u + 1, j, by go_num, rfl, by omega, by omega, hjm, HS.out, HFL.out.kept HBH.out, grown_cmp HGR.out HBH.out⟩
        case measure => simp [intOf]; omega
    · have hje : j = i := by omega
      subst hje
      have hst : FlAt wr B g cap (P ++ L.take (m - a) ++ [y] ++ L.drop (m - a) ++ S) := by
        have h1 := HFL.out
        have := HM.out
        rw [List.take_of_length_le (by omega), List.drop_of_length_le (by omega), List.append_nil]; exact h1
      have HST := Lib.hid hst
      clear hst
      go_wp2
      go_loopw [17] (fun vk wx => ∃ k : Nat, vk = .int .i64 k ∧ j ≤ k ∧ k ≤ m ∧ FlAt wx B g cap (P ++ L.take (k - a) ++ [y] ++ L.drop (k - a) ++ S) ∧ W.grownBy wx (some g)) (fun vk _ => (intOf vk).toNat)
      case atStart => exact ⟨m, rfl, hjm, Nat.le_refl _, HST.out, HGR.out⟩
      case round =>
        obtain ⟨k, rfl, hjk, hkm, hfl, hgr⟩ := hrel
        have HFK := Lib.hid hfl
        have HGK := Lib.hid hgr
        clear hfl hgr
        have hmm := HM.out
        have haa := HA.out
        by_cases hlt2 : j < k
        · have hd2 : decide ((k : Int) > (j : Int)) = true := decide_eq_true (by omega)
          obtain ⟨k', rfl⟩ : ∃ k', k = k' + 1 := ⟨k - 1, by omega⟩
          have hkL : k' - a < L.length := by omega
          have hlen : (P ++ L.take (k' + 1 - a) ++ [y] ++ L.drop (k' + 1 - a) ++ S).length = N := by rw [← HN.out]; simp; omega
          have hi : k' + 1 < (P ++ L.take (k' + 1 - a) ++ [y] ++ L.drop (k' + 1 - a) ++ S).length := by rw [hlen]; omega
          have hj : k' < (P ++ L.take (k' + 1 - a) ++ [y] ++ L.drop (k' + 1 - a) ++ S).length := by rw [hlen]; omega
          obtain ⟨x0, x1, x2, x3, x4⟩ := HFK.out.cells hi
          obtain ⟨y0, y1, y2, y3, y4⟩ := HFK.out.cells hj
          have HZ := Lib.hid (HFK.out.swap hi hj)
          have hsw : swF (P ++ L.take (k' + 1 - a) ++ [y] ++ L.drop (k' + 1 - a) ++ S) (k' + 1) k' = P ++ L.take (k' - a) ++ [y] ++ L.drop (k' - a) ++ S := by
            have e1 : P ++ L.take (k' + 1 - a) ++ [y] ++ L.drop (k' + 1 - a) ++ S = (P ++ L.take (k' - a)) ++ L[k' - a] :: ([] ++ y :: (L.drop (k' - a + 1) ++ S)) := by
              rw [show k' + 1 - a = k' - a + 1 by omega, List.take_succ_eq_append_getElem hkL]; simp only [List.append_assoc, List.cons_append, List.nil_append]
            rw [swF_comm _ (by omega), e1, swF_eq _ _ _ _ _ (by simp; omega) (by simp; omega), List.drop_eq_getElem_cons hkL]
            simp only [List.append_assoc, List.cons_append, List.nil_append]
          have HSW := Lib.hid hsw
          have hz : ∀ o, wr.frozen? ⟨g, o, none⟩ = false := fun o => HFK.out.frozen o
          have p1 : (k' : Int) + 1 < (N : Int) := by omega
          have p2 : ((k' : Int) + 1).toNat = k' + 1 := by omega
          have p3 : (k' : Int) < (N : Int) := by omega
          have p4 : ((k' + 1 : Nat) : Int) - 1 = (k' : Int) := by omega
          have p5 : (k' : Int) + 1 - 1 = (k' : Int) := by omega
          have p6 : (0 : Int) ≤ (k' : Int) + 1 := by omega
          have n00 : ¬ ((k' + 1) * 5 = k' * 5) := by omega
          have n01 : ¬ ((k' + 1) * 5 = k' * 5 + 1) := by omega
          have n02 : ¬ ((k' + 1) * 5 = k' * 5 + 2) := by omega
          have n03 : ¬ ((k' + 1) * 5 = k' * 5 + 3) := by omega
          have n04 : ¬ ((k' + 1) * 5 = k' * 5 + 4) := by omega
          have n10 : ¬ ((k' + 1) * 5 + 1 = k' * 5) := by omega
          have n11 : ¬ ((k' + 1) * 5 + 1 = k' * 5 + 1) := by omega
          have n12 : ¬ ((k' + 1) * 5 + 1 = k' * 5 + 2) := by omega
          have n13 : ¬ ((k' + 1) * 5 + 1 = k' * 5 + 3) := by omega
          have n14 : ¬ ((k' + 1) * 5 + 1 = k' * 5 + 4) := by omega
          have n20 : ¬ ((k' + 1) * 5 + 2 = k' * 5) := by omega
          have n21 : ¬ ((k' + 1) * 5 + 2 = k' * 5 + 1) := by omega
          have n22 : ¬ ((k' + 1) * 5 + 2 = k' * 5 + 2) := by omega
          have n23 : ¬ ((k' + 1) * 5 + 2 = k' * 5 + 3) := by omega
          have n24 : ¬ ((k' + 1) * 5 + 2 = k' * 5 + 4) := by omega
          have n30 : ¬ ((k' + 1) * 5 + 3 = k' * 5) := by omega
          have n31 : ¬ ((k' + 1) * 5 + 3 = k' * 5 + 1) := by omega
          have n32 : ¬ ((k' + 1) * 5 + 3 = k' * 5 + 2) := by omega
          have n33 : ¬ ((k' + 1) * 5 + 3 = k' * 5 + 3) := by omega
          have n34 : ¬ ((k' + 1) * 5 + 3 = k' * 5 + 4) := by omega
          have n40 : ¬ ((k' + 1) * 5 + 4 = k' * 5) := by omega
          have n41 : ¬ ((k' + 1) * 5 + 4 = k' * 5 + 1) := by omega
          have n42 : ¬ ((k' + 1) * 5 + 4 = k' * 5 + 2) := by omega
          have n43 : ¬ ((k' + 1) * 5 + 4 = k' * 5 + 3) := by omega
          have n44 : ¬ ((k' + 1) * 5 + 4 = k' * 5 + 4) := by omega
          clear hsw hlen hmm haa
          generalize (P ++ L.take (k' + 1 - a) ++ [y] ++ L.drop (k' + 1 - a) ++ S)[k' + 1] = fa at *
          generalize (P ++ L.take (k' + 1 - a) ++ [y] ++ L.drop (k' + 1 - a) ++ S)[k'] = fb at *
          go_wp2
          go_big_region
          go_wp2
          go_roundw
          case rel => exact ⟨k', by go_num, by omega, by omega, by rw [← HSW.out]; exact HZ.out.1.drew, grown_drew (grown_again HGK.out HZ.out.2)⟩
          case measure => simp [intOf]
        · have hke : k = j := by omega
          have hd2 : decide ((k : Int) > (j : Int)) = false := decide_eq_false (by omega)
          have HK := Lib.hid hke
          clear hke hmm haa
          go_wp2
          refine bodyPost_ret (results_none rfl _ _ _) rfl ⟨rfl, ?_, HGK.out⟩
          have hf := HFK.out
          have hmm := HM.out
          rw [HK.out] at hf
          have hmr : mrg ltF L [y] = L.take (j - a) ++ y :: L.drop (j - a) := by
            have := mrg_one (lt := ltF) y (L.take (j - a)) (L.drop (j - a)) (fun x hx => by
              obtain ⟨t, ht, rfl⟩ := List.mem_iff_getElem.1 hx
              simp at ht
              rw [List.getElem_take]
              exact (HT.out t (by omega)).1 (by omega)) (fun x hx => by
              obtain ⟨t, ht, rfl⟩ := List.mem_iff_getElem.1 hx
              simp at ht
              rw [List.getElem_drop]
              exact (HT.out (j - a + t) (by omega)).2 (by omega))
            rwa [List.take_append_drop] at this
          rw [hmr]
          simpa using hf
end Go.Proofs.Ytaaohaihajccgaa
