/- The stable sort of fields: symMerge, the other case. -/
import Derived.Test.YtaaohaihajccgaaKsE
namespace Go.Proofs.Ytaaohaihajccgaa
open Go.RowKit LM
set_option linter.unusedVariables false

set_option maxRecDepth 100000 in
set_option maxHeartbeats 16000000 in
theorem symMerge_low (n : Nat) (ih : SymOk n) (W : World) (B g cap : Nat) (P L R S : List Fld) (a m b N mid : Nat) (hn : L.length + R.length ≤ n + 1) (h : FlAt W B g cap (P ++ L ++ R ++ S)) (hN : (P ++ L ++ R ++ S).length = N) (ha : a = P.length) (hm : m = a + L.length) (hb : b = m + R.length) (hl1 : 2 ≤ L.length) (hr1 : 2 ≤ R.length)
    (hl : N ≤ 1099511627776) (hL : Ris ltF L) (hR : Ris ltF R) (ho : Ord ltF) (hmid : mid = (a + b) / 2) (hcase : m ≤ mid) :
    Calls Try.prog 90 #[.slice (some ⟨g, 0, none⟩) N cap, .int .i64 a, .int .i64 m, .int .i64 b, .func (.func 73) #[] #[]] W fun e w' => e = .returned (.tuple #[]) ∧ FlAt w' B g cap (P ++ mrg ltF L R ++ S) ∧ W.grownBy w' (some g) := by
  have HF := Lib.hid h
  have hbN : b ≤ N := by rw [← hN]; simp; omega
  have HN := Lib.hid hN
  obtain ⟨ll, hll⟩ : ∃ ll, L.length = ll := ⟨_, rfl⟩
  obtain ⟨rl, hrl⟩ : ∃ rl, R.length = rl := ⟨_, rfl⟩
  have hst : a = a := rfl
  obtain ⟨p, hp⟩ : ∃ p, mid + m - 1 = p := ⟨_, rfl⟩
  rw [hll] at hn hm hl1
  rw [hrl] at hn hb hr1
  have e1 : (m : Int) - (a : Int) = (ll : Int) := by omega
  have e2 : ((ll : Int) == 1) = false := by simp; omega
  have e3 : (b : Int) - (m : Int) = (rl : Int) := by omega
  have e4 : ((rl : Int) == 1) = false := by simp; omega
  have e5 : ((a : Int) + (b : Int)) / 2 = (mid : Int) := by omega
  have e6 : 0 = 0 := rfl
  have e7 : (mid : Int) + (m : Int) - 1 = (p : Int) := by omega
  have e8 : (0 : Int) ≤ (a : Int) + (b : Int) := by omega
  have e9 : decide ((m : Int) > (mid : Int)) = false := decide_eq_false (by omega)
  have e10 : 0 = 0 := rfl
  skip
  clear e10
  have g1 : a ≤ m := by omega
  have g2 : a ≤ a := by omega
  have g3 : m ≤ m := by omega
  have g4 : m ≤ mid := by omega
  have g5 : mid ≤ a + rl := by omega
  have g6 : m < b := by omega
  have g7 : a < m := by omega
  have g8 : mid < b := by omega
  have g9 : a < mid := by omega
  have g10 : 1 ≤ mid + m := by omega
  have HA := Lib.hid ha
  have HM := Lib.hid hm
  have HB := Lib.hid hb
  have HLL := Lib.hid hll
  have HRL := Lib.hid hrl
  have HST := Lib.hid hst
  have HP := Lib.hid hp
  have HMID := Lib.hid hmid
  have HIH := Lib.hid ih
  have HNN := Lib.hid hn
  clear h hN ha hm hb hll hrl hst hp hmid ih hn
  go_enter Try.func90, Try.ntmps90
  go_wp2
  clear e6 e9 e5
  go_loopw [20, 21] (fun vi vj wr => ∃ i j : Nat, vi = .int .i64 i ∧ vj = .int .i64 j ∧ a ≤ i ∧ i ≤ j ∧ j ≤ m ∧ Hid (∀ t, (h1 : t - a < L.length) → (h2 : mid - 1 - t < R.length) → (a ≤ t → t < i → ltF R[mid - 1 - t] L[t - a] = false) ∧ (j ≤ t → t < m → ltF R[mid - 1 - t] L[t - a] = true)) ∧ FlAt wr B g cap (P ++ L ++ R ++ S) ∧ W.grownBy wr (some g)) (fun vi vj _ => (intOf vj).toNat - (intOf vi).toNat)
  case atStart => exact ⟨a, m, rfl, rfl, Nat.le_refl _, g1, Nat.le_refl _, Lib.hid (fun t h1 h2 => ⟨fun h3 h4 => by omega, fun h3 h4 => by omega⟩), HF.out, ⟨rfl, rfl, rfl, Nat.le_refl _, fun _ _ _ => rfl⟩⟩
  case round =>
    obtain ⟨i, j, rfl, rfl, hsi, hij, hjr, HT, hfl, hgr⟩ := hrel
    have HFL := Lib.hid hfl
    have HGR := Lib.hid hgr
    clear hfl hgr
    by_cases hlt : i < j
    · obtain ⟨u, hu⟩ : ∃ u, (i + j) / 2 = u := ⟨_, rfl⟩
      have p0 : (0 : Int) ≤ (i : Int) + (j : Int) := by omega
      have eh : ((i : Int) + (j : Int)) / 2 = (u : Int) := by omega
      have u0 : i ≤ u := by omega
      have u1 : u < j := by omega
      have u2 : u < N := by omega
      clear hu
      obtain ⟨d, hd⟩ : ∃ d, p - u = d := ⟨_, rfl⟩
      have ed : (p : Int) - (u : Int) = (d : Int) := by have := HP.out; omega
      have ed2 : d < N := by have := HP.out; have := HB.out; omega
      have ed3 : d = m + (mid - 1 - u) := by have := HP.out; omega
      have HD := Lib.hid ed3
      have ew : IntKind.i64.wrap ((p : Int) - (u : Int)) = (d : Int) := by rw [ed]; exact IntWalk.i64_in _ (by omega)
      have ew2 : IntKind.i64.wrap (d : Int) = (d : Int) := IntWalk.i64_in _ (by omega)
      have ed4 : (0 : Int) ≤ (d : Int) := by omega
      have ed5 : (d : Int) < (N : Int) := by omega
      clear hd ed3
      have huL : u - a < L.length := by have := HM.out; have := HLL.out; omega
      have hdR : mid - 1 - u < R.length := by have := HRL.out; omega
      have HJ := Lib.hid (cmp_keep HFL.out (u := d) (v := u) (fa := R[mid - 1 - u]) (fb := L[u - a]) (by
        have := HA.out; have := HM.out; have := HLL.out; have := HD.out
        rw [List.append_assoc, List.getElem?_append_right (by simp; omega), List.getElem?_append_left (by simp; omega), show d - (P ++ L).length = mid - 1 - u by simp; omega]
        exact List.getElem?_eq_getElem hdR) (by
        have := HA.out; have := HM.out
        rw [List.append_assoc, List.append_assoc, List.getElem?_append_right (by omega), List.getElem?_append_left (by omega), show u - P.length = u - a by omega]
        exact List.getElem?_eq_getElem huL))
      have hsplit : (ltF R[mid - 1 - u] L[u - a] = false → Hid (∀ t, (h1 : t - a < L.length) → (h2 : mid - 1 - t < R.length) → (a ≤ t → t < u + 1 → ltF R[mid - 1 - t] L[t - a] = false) ∧ (j ≤ t → t < m → ltF R[mid - 1 - t] L[t - a] = true))) ∧
          (ltF R[mid - 1 - u] L[u - a] = true → Hid (∀ t, (h1 : t - a < L.length) → (h2 : mid - 1 - t < R.length) → (a ≤ t → t < i → ltF R[mid - 1 - t] L[t - a] = false) ∧ (u ≤ t → t < m → ltF R[mid - 1 - t] L[t - a] = true))) := by
        have mono : ∀ t u', (h1 : t - a < L.length) → (h2 : mid - 1 - t < R.length) → (h3 : u' - a < L.length) → (h4 : mid - 1 - u' < R.length) → a ≤ t → t ≤ u' → u' < mid → ltF L[u' - a] L[t - a] = false ∧ ltF R[mid - 1 - t] R[mid - 1 - u'] = false := by
          intro t u' h1 h2 h3 h4 h5 h6 h7
          by_cases e : t = u'
          · subst e; exact ⟨ho.irr _, ho.irr _⟩
          · exact ⟨List.pairwise_iff_getElem.1 hL (t - a) (u' - a) h1 h3 (by omega), List.pairwise_iff_getElem.1 hR (mid - 1 - u') (mid - 1 - t) h4 h2 (by omega)⟩
        refine ⟨fun hx => Lib.hid fun t h1 h2 => ⟨fun h3 h4 => ?_, (HT.out t h1 h2).2⟩, fun hx => Lib.hid fun t h1 h2 => ⟨(HT.out t h1 h2).1, fun h3 h4 => ?_⟩⟩
        · obtain ⟨k1, k2⟩ := mono t u h1 h2 huL hdR (by omega) (by omega) (by omega)
          exact ho.le_tr k1 (ho.le_tr hx k2)
        · obtain ⟨k1, k2⟩ := mono u t huL hdR h1 h2 (by omega) h3 (by omega)
          rcases ho.neg _ _ R[mid - 1 - t] hx with h5 | h5
          · rw [k2] at h5; cases h5
          · rcases ho.neg _ _ L[t - a] h5 with h6 | h6
            · exact h6
            · rw [k1] at h6; cases h6
      have HSP := Lib.hid hsplit
      clear hsplit
      obtain ⟨c, hc⟩ : ∃ c, fldCmp R[mid - 1 - u] L[u - a] = c := ⟨_, rfl⟩
      have HC := Lib.hid (cmp_call wr R[mid - 1 - u] L[u - a] c hc)
      have HCC : Hid (ltF R[mid - 1 - u] L[u - a] = decide (c < 0)) := Lib.hid (by unfold ltF; rw [hc])
      clear hc
      by_cases hc0 : c < 0
      · have hd : decide (c < 0) = true := decide_eq_true hc0
        have HS := Lib.hid (HSP.out.2 (by rw [HCC.out, hd]))
        generalize R[mid - 1 - u] = fx at *
        generalize L[u - a] = fy at *
        go_wp2
        go_region_held3 (fun w' => Below wr.heap.size wr w' ∧ w'.cell? ⟨g, d * 5, none⟩ = some (.string fx.name) ∧ w'.cell? ⟨g, d * 5 + 1, none⟩ = some (.int .u8 fx.h.op) ∧ w'.cell? ⟨g, d * 5 + 2, none⟩ = some (.string fx.h.name) ∧ w'.cell? ⟨g, d * 5 + 3, none⟩ = some (.int .i64 fx.h.n) ∧ w'.cell? ⟨g, d * 5 + 4, none⟩ = some (.slice fx.q fx.k.len fx.cap) ∧ w'.cell? ⟨g, u * 5, none⟩ = some (.string fy.name) ∧ w'.cell? ⟨g, u * 5 + 1, none⟩ = some (.int .u8 fy.h.op) ∧ w'.cell? ⟨g, u * 5 + 2, none⟩ = some (.string fy.h.name) ∧ w'.cell? ⟨g, u * 5 + 3, none⟩ = some (.int .i64 fy.h.n) ∧ w'.cell? ⟨g, u * 5 + 4, none⟩ = some (.slice fy.q fy.k.len fy.cap)) ((refine HJ.out _ ?_; (first | assumption | exact (below_drewN (Below.refl _ _) _).drew | exact below_drewN (Below.refl _ _) _ | exact (Below.refl _ _).drew | exact Below.refl _ _ | (go_split_ands; assumption)))) (first | (go_at_call 73; (with_reducible refine (HC.out _ ?_).mono ?_); (first | assumption | exact (below_drewN (Below.refl _ _) _).drew | exact below_drewN (Below.refl _ _) _ | exact (Below.refl _ _).drew | exact Below.refl _ _ | (go_split_ands; assumption)); rintro e w21 ⟨rfl, hc21⟩))
        rename_i hH
        have HBH := Lib.hid hH.1
        clear hH
        go_wp2
        go_roundw
        case rel => exact ⟨i, u, rfl, rfl, hsi, by omega, by omega, HS.out, HFL.out.kept HBH.out, grown_cmp HGR.out HBH.out⟩
        case measure => simp [intOf]; omega
      · have hd : decide (c < 0) = false := decide_eq_false hc0
        have HS := Lib.hid (HSP.out.1 (by rw [HCC.out, hd]))
        generalize R[mid - 1 - u] = fx at *
        generalize L[u - a] = fy at *
        go_wp2
        go_region_held3 (fun w' => Below wr.heap.size wr w' ∧ w'.cell? ⟨g, d * 5, none⟩ = some (.string fx.name) ∧ w'.cell? ⟨g, d * 5 + 1, none⟩ = some (.int .u8 fx.h.op) ∧ w'.cell? ⟨g, d * 5 + 2, none⟩ = some (.string fx.h.name) ∧ w'.cell? ⟨g, d * 5 + 3, none⟩ = some (.int .i64 fx.h.n) ∧ w'.cell? ⟨g, d * 5 + 4, none⟩ = some (.slice fx.q fx.k.len fx.cap) ∧ w'.cell? ⟨g, u * 5, none⟩ = some (.string fy.name) ∧ w'.cell? ⟨g, u * 5 + 1, none⟩ = some (.int .u8 fy.h.op) ∧ w'.cell? ⟨g, u * 5 + 2, none⟩ = some (.string fy.h.name) ∧ w'.cell? ⟨g, u * 5 + 3, none⟩ = some (.int .i64 fy.h.n) ∧ w'.cell? ⟨g, u * 5 + 4, none⟩ = some (.slice fy.q fy.k.len fy.cap)) ((refine HJ.out _ ?_; (first | assumption | exact (below_drewN (Below.refl _ _) _).drew | exact below_drewN (Below.refl _ _) _ | exact (Below.refl _ _).drew | exact Below.refl _ _ | (go_split_ands; assumption)))) (first | (go_at_call 73; (with_reducible refine (HC.out _ ?_).mono ?_); (first | assumption | exact (below_drewN (Below.refl _ _) _).drew | exact below_drewN (Below.refl _ _) _ | exact (Below.refl _ _).drew | exact Below.refl _ _ | (go_split_ands; assumption)); rintro e w21 ⟨rfl, hc21⟩))
        rename_i hH
        have HBH := Lib.hid hH.1
        clear hH
        go_wp2
        go_roundw
        case rel => exact ⟨u + 1, j, by go_num, rfl, by omega, by omega, hjr, HS.out, HFL.out.kept HBH.out, grown_cmp HGR.out HBH.out⟩
        case measure => simp [intOf]; omega
    · have hje : j = i := by omega
      subst hje
      obtain ⟨e, he⟩ : ∃ e, mid + m - j = e := ⟨_, rfl⟩
      have ee : (mid : Int) + (m : Int) - (j : Int) = (e : Int) := by omega
      have hcut : SymCut L R a m b mid j := ⟨by omega, by omega, by omega, by have := HRL.out; omega, fun h1 h2 h3 h4 => (HT.out j h3 h4).2 (Nat.le_refl _) (by omega), fun h1 h2 h3 h4 => by
        have k := (HT.out (j - 1) h3 (by have := HRL.out; omega)).1 (by have := HRL.out; have := HST.out; omega) (by omega)
        simp only [show mid - 1 - (j - 1) = mid - j by omega] at k
        exact k⟩
      have hmr := hcut.split ho hL hR (by have := HM.out; have := HLL.out; omega)
      obtain ⟨L1, hL1⟩ : ∃ L1, L.take (j - a) = L1 := ⟨_, rfl⟩
      obtain ⟨L2, hL2⟩ : ∃ L2, L.drop (j - a) = L2 := ⟨_, rfl⟩
      obtain ⟨R1, hR1⟩ : ∃ R1, R.take (mid - j) = R1 := ⟨_, rfl⟩
      obtain ⟨R2, hR2⟩ : ∃ R2, R.drop (mid - j) = R2 := ⟨_, rfl⟩
      have eL : L = L1 ++ L2 := by rw [← hL1, ← hL2, List.take_append_drop]
      have eR : R = R1 ++ R2 := by rw [← hR1, ← hR2, List.take_append_drop]
      have n1 : L1.length = j - a := by rw [← hL1, List.length_take]; have := HM.out; have := HLL.out; omega
      have n2 : L2.length = m - j := by rw [← hL2, List.length_drop]; have := HM.out; have := HLL.out; omega
      have n3 : R1.length = mid - j := by rw [← hR1, List.length_take]; have := HRL.out; omega
      have n4 : R2.length = j + rl - mid := by rw [← hR2, List.length_drop]; have := HRL.out; omega
      have s1 : Ris ltF L1 := by rw [← hL1]; exact hL.sublist (List.take_sublist _ _)
      have s2 : Ris ltF L2 := by rw [← hL2]; exact hL.sublist (List.drop_sublist _ _)
      have s3 : Ris ltF R1 := by rw [← hR1]; exact hR.sublist (List.take_sublist _ _)
      have s4 : Ris ltF R2 := by rw [← hR2]; exact hR.sublist (List.drop_sublist _ _)
      rw [hL1, hL2, hR1, hR2] at hmr
      have HMR := Lib.hid hmr
      have hNN : P.length + (j - a) + (m - j) + (mid - j) + (j + rl - mid) + S.length = N := by rw [← n1, ← n2, ← n3, ← n4, ← HN.out, eL, eR]; simp; omega
      have hz1 : ∀ l : List Fld, l.length = 0 → l = [] := fun l h => List.length_eq_zero_iff.1 h
      have ROT : Hid (j < m → j < mid → Calls Try.prog 93 #[.slice (some ⟨g, 0, none⟩) N cap, .int .i64 j, .int .i64 m, .int .i64 e, .func (.func 73) #[] #[]] wr fun ed w' => ed = .returned (.tuple #[]) ∧ FlAt w' B g cap (P ++ L1 ++ R1 ++ L2 ++ R2 ++ S) ∧ wr.grownBy w' (some g)) := Lib.hid fun h1 h2 => by
        have hf : FlAt wr B g cap ((P ++ L1) ++ L2 ++ R1 ++ (R2 ++ S)) := by have := HFL.out; rw [eL, eR] at this; simpa using this
        have := rotate_any wr B g cap (P ++ L1) L2 R1 (R2 ++ S) j m e N (.func (.func 73) #[] #[]) hf (by simp; omega) (by simp; have := HA.out; omega) (by omega) (by omega) (by omega) (by omega) hl
        refine this.mono fun ed w' hh => ⟨hh.1, ?_, hh.2.2⟩
        have h3 := hh.2.1
        simpa using h3
      have NOR : Hid (¬ (j < m ∧ j < mid) → FlAt wr B g cap (P ++ L1 ++ R1 ++ L2 ++ R2 ++ S)) := Lib.hid fun hx => by
        have hf := HFL.out
        rw [eL, eR] at hf
        by_cases h1 : j < m
        · have : R1 = [] := hz1 _ (by omega)
          rw [this] at hf ⊢; simpa using hf
        · have : L2 = [] := hz1 _ (by omega)
          rw [this] at hf ⊢; simpa using hf
      have LEF : Hid (∀ w', FlAt w' B g cap (P ++ L1 ++ R1 ++ L2 ++ R2 ++ S) → a < j → j < mid → Calls Try.prog 90 #[.slice (some ⟨g, 0, none⟩) N cap, .int .i64 a, .int .i64 j, .int .i64 mid, .func (.func 73) #[] #[]] w' fun ed w2 => ed = .returned (.tuple #[]) ∧ FlAt w2 B g cap (P ++ mrg ltF L1 R1 ++ L2 ++ R2 ++ S) ∧ w'.grownBy w2 (some g)) := Lib.hid fun w' hf h1 h2 => by
        have hnn := HNN.out
        have := HIH.out w' B g cap P L1 R1 (L2 ++ R2 ++ S) a j mid N (by have := HMID.out; have := HM.out; have := HB.out; omega) (by simpa using hf) (by simp; omega) HA.out (by omega) (by omega) (by omega) (by omega) hl s1 s3
        refine this.mono fun ed w2 hh => ⟨hh.1, ?_, hh.2.2⟩
        have h3 := hh.2.1
        simpa using h3
      have NOL : Hid (∀ w', ¬ (a < j ∧ j < mid) → FlAt w' B g cap (P ++ L1 ++ R1 ++ L2 ++ R2 ++ S) → FlAt w' B g cap (P ++ mrg ltF L1 R1 ++ L2 ++ R2 ++ S)) := Lib.hid fun w' hx hf => by
        by_cases h1 : a < j
        · have : R1 = [] := hz1 _ (by omega)
          rw [this] at hf ⊢; rw [mrg_nil]; simpa using hf
        · have : L1 = [] := hz1 _ (by omega)
          rw [this] at hf ⊢; rw [nil_mrg]; simpa using hf
      have RIG : Hid (∀ w', FlAt w' B g cap (P ++ mrg ltF L1 R1 ++ L2 ++ R2 ++ S) → j < m → e < b → Calls Try.prog 90 #[.slice (some ⟨g, 0, none⟩) N cap, .int .i64 mid, .int .i64 e, .int .i64 b, .func (.func 73) #[] #[]] w' fun ed w2 => ed = .returned (.tuple #[]) ∧ FlAt w2 B g cap (P ++ mrg ltF L R ++ S) ∧ w'.grownBy w2 (some g)) := Lib.hid fun w' hf h1 h2 => by
        have hnn := HNN.out
        have := HIH.out w' B g cap (P ++ mrg ltF L1 R1) L2 R2 S mid e b N (by have := HMID.out; have := HM.out; have := HB.out; omega) (by simpa using hf) (by simp [length_mrg]; omega) (by simp [length_mrg]; have := HA.out; omega) (by omega) (by have := HB.out; omega) (by omega) (by have := HB.out; omega) hl s2 s4
        refine this.mono fun ed w2 hh => ⟨hh.1, ?_, hh.2.2⟩
        have h3 := hh.2.1
        rw [HMR.out]
        simpa using h3
      have NOG : Hid (∀ w', ¬ (j < m ∧ e < b) → FlAt w' B g cap (P ++ mrg ltF L1 R1 ++ L2 ++ R2 ++ S) → FlAt w' B g cap (P ++ mrg ltF L R ++ S)) := Lib.hid fun w' hx hf => by
        rw [HMR.out]
        by_cases h1 : j < m
        · have : R2 = [] := hz1 _ (by have := HB.out; omega)
          rw [this] at hf ⊢; rw [mrg_nil]; simpa using hf
        · have : L2 = [] := hz1 _ (by omega)
          rw [this] at hf ⊢; rw [nil_mrg]; simpa using hf
      clear hcut hmr hL1 hL2 hR1 hR2 eL eR n1 n2 n3 n4 s1 s2 s3 s4 hNN hz1
      by_cases hA : j < m <;> by_cases hB : j < mid <;> by_cases hC : a < j <;> by_cases hD : e < b
      · have t1 : (m < e) := by omega
        have t2 : (mid < e) := by omega
        clear he
        go_wp2_with fail
        refine (ROT.out hA hB).mono ?_
        rintro ed w1 ⟨rfl, hf, hg⟩
        have HF1 := Lib.hid hf
        have HG1 := Lib.hid (grown_again HGR.out hg)
        clear hf hg
        go_wp2_with fail
        refine (LEF.out w1 HF1.out hC hB).mono ?_
        rintro ed w2 ⟨rfl, hf, hg⟩
        have HF2 := Lib.hid hf
        have HG2 := Lib.hid (grown_again HG1.out hg)
        clear hf hg
        go_wp2_with fail
        refine (RIG.out w2 HF2.out hA hD).mono ?_
        rintro ed w3 ⟨rfl, hf, hg⟩
        have HF3 := Lib.hid hf
        have HG3 := Lib.hid (grown_again HG2.out hg)
        clear hf hg
        go_wp2
        go_end0
        exact ⟨rfl, HF3.out, HG3.out⟩
      · have t1 : (m < e) := by omega
        have t2 : (mid < e) := by omega
        clear he
        go_wp2_with fail
        refine (ROT.out hA hB).mono ?_
        rintro ed w1 ⟨rfl, hf, hg⟩
        have HF1 := Lib.hid hf
        have HG1 := Lib.hid (grown_again HGR.out hg)
        clear hf hg
        go_wp2_with fail
        refine (LEF.out w1 HF1.out hC hB).mono ?_
        rintro ed w2 ⟨rfl, hf, hg⟩
        have HF2 := Lib.hid hf
        have HG2 := Lib.hid (grown_again HG1.out hg)
        clear hf hg
        have HF3 := Lib.hid (NOG.out w2 (fun hx => by first | exact hA hx.1 | exact hD hx.2) HF2.out)
        go_wp2
        go_end0
        exact ⟨rfl, HF3.out, HG2.out⟩
      · have t1 : (m < e) := by omega
        have t2 : (mid < e) := by omega
        clear he
        go_wp2_with fail
        refine (ROT.out hA hB).mono ?_
        rintro ed w1 ⟨rfl, hf, hg⟩
        have HF1 := Lib.hid hf
        have HG1 := Lib.hid (grown_again HGR.out hg)
        clear hf hg
        have HF2 := Lib.hid (NOL.out w1 (fun hx => by first | exact hC hx.1 | exact hB hx.2) HF1.out)
        go_wp2_with fail
        refine (RIG.out w1 HF2.out hA hD).mono ?_
        rintro ed w3 ⟨rfl, hf, hg⟩
        have HF3 := Lib.hid hf
        have HG3 := Lib.hid (grown_again HG1.out hg)
        clear hf hg
        go_wp2
        go_end0
        exact ⟨rfl, HF3.out, HG3.out⟩
      · have t1 : (m < e) := by omega
        have t2 : (mid < e) := by omega
        clear he
        go_wp2_with fail
        refine (ROT.out hA hB).mono ?_
        rintro ed w1 ⟨rfl, hf, hg⟩
        have HF1 := Lib.hid hf
        have HG1 := Lib.hid (grown_again HGR.out hg)
        clear hf hg
        have HF2 := Lib.hid (NOL.out w1 (fun hx => by first | exact hC hx.1 | exact hB hx.2) HF1.out)
        have HF3 := Lib.hid (NOG.out w1 (fun hx => by first | exact hA hx.1 | exact hD hx.2) HF2.out)
        go_wp2
        go_end0
        exact ⟨rfl, HF3.out, HG1.out⟩
      · have t1 : ¬ (m < e) := by omega
        have t2 : (mid < e) := by omega
        clear he
        have HF1 := Lib.hid (NOR.out (fun hx => by first | exact hA hx.1 | exact hB hx.2))
        have HF2 := Lib.hid (NOL.out wr (fun hx => by first | exact hC hx.1 | exact hB hx.2) HF1.out)
        go_wp2_with fail
        refine (RIG.out wr HF2.out hA hD).mono ?_
        rintro ed w3 ⟨rfl, hf, hg⟩
        have HF3 := Lib.hid hf
        have HG3 := Lib.hid (grown_again HGR.out hg)
        clear hf hg
        go_wp2
        go_end0
        exact ⟨rfl, HF3.out, HG3.out⟩
      · have t1 : ¬ (m < e) := by omega
        have t2 : (mid < e) := by omega
        clear he
        have HF1 := Lib.hid (NOR.out (fun hx => by first | exact hA hx.1 | exact hB hx.2))
        have HF2 := Lib.hid (NOL.out wr (fun hx => by first | exact hC hx.1 | exact hB hx.2) HF1.out)
        have HF3 := Lib.hid (NOG.out wr (fun hx => by first | exact hA hx.1 | exact hD hx.2) HF2.out)
        go_wp2
        go_end0
        exact ⟨rfl, HF3.out, HGR.out⟩
      · have t1 : ¬ (m < e) := by omega
        have t2 : (mid < e) := by omega
        clear he
        have HF1 := Lib.hid (NOR.out (fun hx => by first | exact hA hx.1 | exact hB hx.2))
        have HF2 := Lib.hid (NOL.out wr (fun hx => by first | exact hC hx.1 | exact hB hx.2) HF1.out)
        go_wp2_with fail
        refine (RIG.out wr HF2.out hA hD).mono ?_
        rintro ed w3 ⟨rfl, hf, hg⟩
        have HF3 := Lib.hid hf
        have HG3 := Lib.hid (grown_again HGR.out hg)
        clear hf hg
        go_wp2
        go_end0
        exact ⟨rfl, HF3.out, HG3.out⟩
      · have t1 : ¬ (m < e) := by omega
        have t2 : (mid < e) := by omega
        clear he
        have HF1 := Lib.hid (NOR.out (fun hx => by first | exact hA hx.1 | exact hB hx.2))
        have HF2 := Lib.hid (NOL.out wr (fun hx => by first | exact hC hx.1 | exact hB hx.2) HF1.out)
        have HF3 := Lib.hid (NOG.out wr (fun hx => by first | exact hA hx.1 | exact hD hx.2) HF2.out)
        go_wp2
        go_end0
        exact ⟨rfl, HF3.out, HGR.out⟩
      · have t1 : (m < e) := by omega
        have t2 : ¬ (mid < e) := by omega
        clear he
        have HF1 := Lib.hid (NOR.out (fun hx => by first | exact hA hx.1 | exact hB hx.2))
        go_wp2_with fail
        refine (LEF.out wr HF1.out hC hB).mono ?_
        rintro ed w2 ⟨rfl, hf, hg⟩
        have HF2 := Lib.hid hf
        have HG2 := Lib.hid (grown_again HGR.out hg)
        clear hf hg
        have HF3 := Lib.hid (NOG.out w2 (fun hx => by first | exact hA hx.1 | exact hD hx.2) HF2.out)
        go_wp2
        go_end0
        exact ⟨rfl, HF3.out, HG2.out⟩
      · have t1 : (m < e) := by omega
        have t2 : ¬ (mid < e) := by omega
        clear he
        have HF1 := Lib.hid (NOR.out (fun hx => by first | exact hA hx.1 | exact hB hx.2))
        go_wp2_with fail
        refine (LEF.out wr HF1.out hC hB).mono ?_
        rintro ed w2 ⟨rfl, hf, hg⟩
        have HF2 := Lib.hid hf
        have HG2 := Lib.hid (grown_again HGR.out hg)
        clear hf hg
        have HF3 := Lib.hid (NOG.out w2 (fun hx => by first | exact hA hx.1 | exact hD hx.2) HF2.out)
        go_wp2
        go_end0
        exact ⟨rfl, HF3.out, HG2.out⟩
      · have t1 : (m < e) := by omega
        have t2 : ¬ (mid < e) := by omega
        clear he
        have HF1 := Lib.hid (NOR.out (fun hx => by first | exact hA hx.1 | exact hB hx.2))
        have HF2 := Lib.hid (NOL.out wr (fun hx => by first | exact hC hx.1 | exact hB hx.2) HF1.out)
        have HF3 := Lib.hid (NOG.out wr (fun hx => by first | exact hA hx.1 | exact hD hx.2) HF2.out)
        go_wp2
        go_end0
        exact ⟨rfl, HF3.out, HGR.out⟩
      · have t1 : (m < e) := by omega
        have t2 : ¬ (mid < e) := by omega
        clear he
        have HF1 := Lib.hid (NOR.out (fun hx => by first | exact hA hx.1 | exact hB hx.2))
        have HF2 := Lib.hid (NOL.out wr (fun hx => by first | exact hC hx.1 | exact hB hx.2) HF1.out)
        have HF3 := Lib.hid (NOG.out wr (fun hx => by first | exact hA hx.1 | exact hD hx.2) HF2.out)
        go_wp2
        go_end0
        exact ⟨rfl, HF3.out, HGR.out⟩
      · have t1 : ¬ (m < e) := by omega
        have t2 : ¬ (mid < e) := by omega
        clear he
        have HF1 := Lib.hid (NOR.out (fun hx => by first | exact hA hx.1 | exact hB hx.2))
        have HF2 := Lib.hid (NOL.out wr (fun hx => by first | exact hC hx.1 | exact hB hx.2) HF1.out)
        have HF3 := Lib.hid (NOG.out wr (fun hx => by first | exact hA hx.1 | exact hD hx.2) HF2.out)
        go_wp2
        go_end0
        exact ⟨rfl, HF3.out, HGR.out⟩
      · have t1 : ¬ (m < e) := by omega
        have t2 : ¬ (mid < e) := by omega
        clear he
        have HF1 := Lib.hid (NOR.out (fun hx => by first | exact hA hx.1 | exact hB hx.2))
        have HF2 := Lib.hid (NOL.out wr (fun hx => by first | exact hC hx.1 | exact hB hx.2) HF1.out)
        have HF3 := Lib.hid (NOG.out wr (fun hx => by first | exact hA hx.1 | exact hD hx.2) HF2.out)
        go_wp2
        go_end0
        exact ⟨rfl, HF3.out, HGR.out⟩
      · have t1 : ¬ (m < e) := by omega
        have t2 : ¬ (mid < e) := by omega
        clear he
        have HF1 := Lib.hid (NOR.out (fun hx => by first | exact hA hx.1 | exact hB hx.2))
        have HF2 := Lib.hid (NOL.out wr (fun hx => by first | exact hC hx.1 | exact hB hx.2) HF1.out)
        have HF3 := Lib.hid (NOG.out wr (fun hx => by first | exact hA hx.1 | exact hD hx.2) HF2.out)
        go_wp2
        go_end0
        exact ⟨rfl, HF3.out, HGR.out⟩
      · have t1 : ¬ (m < e) := by omega
        have t2 : ¬ (mid < e) := by omega
        clear he
        have HF1 := Lib.hid (NOR.out (fun hx => by first | exact hA hx.1 | exact hB hx.2))
        have HF2 := Lib.hid (NOL.out wr (fun hx => by first | exact hC hx.1 | exact hB hx.2) HF1.out)
        have HF3 := Lib.hid (NOG.out wr (fun hx => by first | exact hA hx.1 | exact hD hx.2) HF2.out)
        go_wp2
        go_end0
        exact ⟨rfl, HF3.out, HGR.out⟩
end Go.Proofs.Ytaaohaihajccgaa
