/- The stable sort of fields: swapRange, rotate. -/
import Derived.Test.YtaaohaihajccgaaKsP
import Derived.BigRegion
import Derived.IntWalk
namespace Go.Proofs.Ytaaohaihajccgaa
open Go.RowKit LM
set_option linter.unusedVariables false

theorem FlAt.drew {W : World} {B g cap : Nat} {fs : List Fld} (h : FlAt W B g cap fs) : FlAt W.drew B g cap fs := h.kept ((Below.refl _ _).drew)
theorem grown_drew {W W' : World} {r : Option Nat} (h : W.grownBy W' r) : W.grownBy W'.drew r := ⟨h.os, h.tape, h.output, h.size, h.block⟩

set_option maxRecDepth 100000 in
set_option maxHeartbeats 2000000 in
theorem swapRange_any (W : World) (B g cap : Nat) (fs : List Fld) (a b n N : Nat) (fv : Value) (h : FlAt W B g cap fs) (hN : fs.length = N) (ha : a + n ≤ N) (hb : b + n ≤ N) (hab : a + n ≤ b) (hl : N ≤ 1099511627776) :
    Calls Try.prog 94 #[.slice (some ⟨g, 0, none⟩) N cap, .int .i64 a, .int .i64 b, .int .i64 n, fv] W fun e w' => e = .returned (.tuple #[]) ∧ FlAt w' B g cap (swR fs a b n) ∧ W.grownBy w' (some g) := by
  have HF := Lib.hid h
  have HN := Lib.hid hN
  clear h hN
  go_enter Try.func94, Try.ntmps94
  go_wp2
  go_loopw [10] (fun i wr => ∃ k : Nat, k ≤ n ∧ i = .int .i64 k ∧ FlAt wr B g cap (swR fs a b k) ∧ W.grownBy wr (some g)) (fun i _ => n - (intOf i).toNat)
  case atStart => exact ⟨0, Nat.zero_le _, rfl, HF.out, ⟨rfl, rfl, rfl, Nat.le_refl _, fun _ _ _ => rfl⟩⟩
  case round =>
    obtain ⟨k, hk, rfl, hfl, hgr⟩ := hrel
    have hlen : (swR fs a b k).length = N := by rw [length_swR, HN.out]
    have HL := Lib.hid hlen
    have HFL := Lib.hid hfl
    have HGR := Lib.hid hgr
    clear hfl hgr hlen
    by_cases hkn : k < n
    · have hi : a + k < (swR fs a b k).length := by rw [HL.out]; omega
      have hj : b + k < (swR fs a b k).length := by rw [HL.out]; omega
      obtain ⟨x0, x1, x2, x3, x4⟩ := HFL.out.cells hi
      obtain ⟨y0, y1, y2, y3, y4⟩ := HFL.out.cells hj
      have HZ := Lib.hid (HFL.out.swap hi hj)
      have hz : ∀ o, wr.frozen? ⟨g, o, none⟩ = false := fun o => HFL.out.frozen o
      have p0 : (0 : Int) ≤ (a : Int) + (k : Int) := by omega
      have p1 : (a : Int) + (k : Int) < (N : Int) := by omega
      have p2 : ((a : Int) + (k : Int)).toNat = a + k := by omega
      have q0 : (0 : Int) ≤ (b : Int) + (k : Int) := by omega
      have q1 : (b : Int) + (k : Int) < (N : Int) := by omega
      have q2 : ((b : Int) + (k : Int)).toNat = b + k := by omega
      have n00 : ¬ ((a + k) * 5 = (b + k) * 5) := by omega
      have n01 : ¬ ((a + k) * 5 = (b + k) * 5 + 1) := by omega
      have n02 : ¬ ((a + k) * 5 = (b + k) * 5 + 2) := by omega
      have n03 : ¬ ((a + k) * 5 = (b + k) * 5 + 3) := by omega
      have n04 : ¬ ((a + k) * 5 = (b + k) * 5 + 4) := by omega
      have n10 : ¬ ((a + k) * 5 + 1 = (b + k) * 5) := by omega
      have n11 : ¬ ((a + k) * 5 + 1 = (b + k) * 5 + 1) := by omega
      have n12 : ¬ ((a + k) * 5 + 1 = (b + k) * 5 + 2) := by omega
      have n13 : ¬ ((a + k) * 5 + 1 = (b + k) * 5 + 3) := by omega
      have n14 : ¬ ((a + k) * 5 + 1 = (b + k) * 5 + 4) := by omega
      have n20 : ¬ ((a + k) * 5 + 2 = (b + k) * 5) := by omega
      have n21 : ¬ ((a + k) * 5 + 2 = (b + k) * 5 + 1) := by omega
      have n22 : ¬ ((a + k) * 5 + 2 = (b + k) * 5 + 2) := by omega
      have n23 : ¬ ((a + k) * 5 + 2 = (b + k) * 5 + 3) := by omega
      have n24 : ¬ ((a + k) * 5 + 2 = (b + k) * 5 + 4) := by omega
      have n30 : ¬ ((a + k) * 5 + 3 = (b + k) * 5) := by omega
      have n31 : ¬ ((a + k) * 5 + 3 = (b + k) * 5 + 1) := by omega
      have n32 : ¬ ((a + k) * 5 + 3 = (b + k) * 5 + 2) := by omega
      have n33 : ¬ ((a + k) * 5 + 3 = (b + k) * 5 + 3) := by omega
      have n34 : ¬ ((a + k) * 5 + 3 = (b + k) * 5 + 4) := by omega
      have n40 : ¬ ((a + k) * 5 + 4 = (b + k) * 5) := by omega
      have n41 : ¬ ((a + k) * 5 + 4 = (b + k) * 5 + 1) := by omega
      have n42 : ¬ ((a + k) * 5 + 4 = (b + k) * 5 + 2) := by omega
      have n43 : ¬ ((a + k) * 5 + 4 = (b + k) * 5 + 3) := by omega
      have n44 : ¬ ((a + k) * 5 + 4 = (b + k) * 5 + 4) := by omega
      generalize (swR fs a b k)[a + k] = fa at *
      generalize (swR fs a b k)[b + k] = fb at *
      go_wp2
      go_big_region
      go_wp2
      go_roundw
      case rel => exact ⟨k + 1, by omega, by go_num, HZ.out.1.drew, grown_drew (grown_again HGR.out HZ.out.2)⟩
      case measure => simp [intOf]; omega
    · have hke : k = n := by omega
      have HK := Lib.hid hke
      clear hke
      go_wp2
      go_end0
      refine ⟨rfl, ?_, HGR.out⟩
      have := HFL.out
      rwa [HK.out] at this

/-- While two neighbours are turned: U and V are still to change places. -/
def RotI (W : World) (B g cap : Nat) (G : List Fld) (m N : Nat) (i j : Nat) (wr : World) : Prop :=
  ∃ P U V S : List Fld, U.length = i ∧ V.length = j ∧ 0 < i ∧ 0 < j ∧ P.length + i = m ∧ P ++ V ++ U ++ S = G ∧ (P ++ U ++ V ++ S).length = N ∧ FlAt wr B g cap (P ++ U ++ V ++ S) ∧ W.grownBy wr (some g)

set_option maxRecDepth 100000 in
set_option maxHeartbeats 2000000 in
theorem rotate_any (W : World) (B g cap : Nat) (P X Y S : List Fld) (a m b N : Nat) (fv : Value) (h : FlAt W B g cap (P ++ X ++ Y ++ S)) (hN : (P ++ X ++ Y ++ S).length = N) (ha : a = P.length) (hm : m = a + X.length) (hb : b = m + Y.length) (hX : 0 < X.length) (hY : 0 < Y.length) (hl : N ≤ 1099511627776) :
    Calls Try.prog 93 #[.slice (some ⟨g, 0, none⟩) N cap, .int .i64 a, .int .i64 m, .int .i64 b, fv] W fun e w' => e = .returned (.tuple #[]) ∧ FlAt w' B g cap (P ++ Y ++ X ++ S) ∧ W.grownBy w' (some g) := by
  have hst : RotI W B g cap (P ++ Y ++ X ++ S) m N X.length Y.length W := ⟨P, X, Y, S, rfl, rfl, hX, hY, by omega, rfl, hN, h, ⟨rfl, rfl, rfl, Nat.le_refl _, fun _ _ _ => rfl⟩⟩
  have HST := Lib.hid hst
  have hmN : m ≤ N := by rw [← hN]; simp; omega
  have hbN : b ≤ N := by rw [← hN]; simp; omega
  have hsw := fun (wr : World) (P U M V S : List Fld) (a b n : Nat) (h : FlAt wr B g cap (P ++ U ++ M ++ V ++ S)) (hN : (P ++ U ++ M ++ V ++ S).length = N) (hu : U.length = n) (hv : V.length = n) (ha : a = P.length) (hb : b = a + n + M.length) =>
    (swapRange_any wr B g cap (P ++ U ++ M ++ V ++ S) a b n N fv h hN (by simp at hN; omega) (by simp at hN; omega) (by omega) hl).mono fun e w' hh => (⟨hh.1, by rw [← swR_eq P U M V S hu hv ha hb]; exact hh.2.1, hh.2.2⟩ : e = .returned (.tuple #[]) ∧ FlAt w' B g cap (P ++ V ++ M ++ U ++ S) ∧ wr.grownBy w' (some g))
  have HSW := Lib.hid hsw
  generalize P ++ Y ++ X ++ S = G at *
  generalize hXl : X.length = x at *
  generalize hYl : Y.length = y at *
  have e1 : (m : Int) - (a : Int) = (x : Int) := by omega
  have e2 : (b : Int) - (m : Int) = (y : Int) := by omega
  clear hst h hN hsw hXl hYl
  have ham : a ≤ m := by omega
  have hmb : m ≤ b := by omega
  have hm0 : 0 < m := by omega
  clear ha hm hb
  go_enter Try.func93, Try.ntmps93
  go_wp2
  clear e1 e2
  go_loopw [10, 11] (fun vi vj wr => ∃ i j : Nat, vi = .int .i64 i ∧ vj = .int .i64 j ∧ Hid (RotI W B g cap G m N i j wr)) (fun vi vj _ => (intOf vi).toNat + (intOf vj).toNat)
  case atStart => exact ⟨x, y, rfl, rfl, HST.out⟩
  case round =>
    obtain ⟨i, j, rfl, rfl, HR⟩ := hrel
    obtain ⟨P', U, V, S', hU, hV, hi, hj, hP, hG, hN', hfl, hgr⟩ := HR.out
    have HFL := Lib.hid hfl
    have HGR := Lib.hid hgr
    have HG := Lib.hid hG
    have HN' := Lib.hid hN'
    have HU := Lib.hid hU
    have HV := Lib.hid hV
    have hjN : m + j ≤ N := by rw [← hN']; simp; omega
    clear hfl hgr hG hN' hU hV HR
    have him : i ≤ m := by omega
    have HP := Lib.hid hP
    clear hP
    by_cases hij : i = j
    · subst hij
      have z1 : (m : Int) - (i : Int) = ((m - i : Nat) : Int) := by omega
      have HC := Lib.hid (HSW.out wr P' U [] V S' (m - i) m i (by simpa using HFL.out) (by simpa using HN'.out) HU.out HV.out (by have := HP.out; omega) (by simp; omega))
      go_wp2_with (go_at_call 94; refine HC.out.mono ?_; rintro e w' ⟨rfl, hf, hg⟩; have HF := Lib.hid hf; have HG2 := Lib.hid hg; clear hf hg)
      go_end0
      refine ⟨rfl, ?_, grown_again HGR.out HG2.out⟩
      have := HF.out
      simp only [List.append_nil] at this
      rwa [HG.out] at this
    · have hne : ((i : Int) != (j : Int)) = true := by simp; omega
      by_cases hgt : j < i
      · have hd : decide ((i : Int) > (j : Int)) = true := decide_eq_true (by omega)
        have z1 : (m : Int) - (i : Int) = ((m - i : Nat) : Int) := by omega
        have z2 : (i : Int) - (j : Int) = ((i - j : Nat) : Int) := by omega
        obtain ⟨U1, U2, rfl, hu1⟩ : ∃ U1 U2, U = U1 ++ U2 ∧ U1.length = j := ⟨U.take j, U.drop j, (List.take_append_drop _ _).symm, by rw [List.length_take, HU.out]; omega⟩
        have hu2 : U2.length = i - j := by have := HU.out; simp at this; omega
        have HC := Lib.hid (HSW.out wr P' U1 U2 V S' (m - i) m j (by simpa using HFL.out) (by simpa using HN'.out) hu1 HV.out (by have := HP.out; omega) (by omega))
        have hstep : ∀ w', FlAt w' B g cap (P' ++ V ++ U2 ++ U1 ++ S') → wr.grownBy w' (some g) → Hid (RotI W B g cap G m N (i - j) j w') := fun w' h1 h2 => by
          refine Lib.hid ⟨P' ++ V, U2, U1, S', hu2, hu1, by omega, hj, ?_, ?_, ?_, by simpa using h1, grown_again HGR.out h2⟩
          · have := HV.out; have := HP.out; simp; omega
          · rw [← HG.out]; simp
          · rw [← HN'.out]; simp; omega
        have HS := Lib.hid hstep
        clear hstep hu1 hu2 hij
        go_wp2_with (go_at_call 94; refine HC.out.mono ?_; rintro e w' ⟨rfl, hf, hg⟩; have HF := Lib.hid hf; have HG2 := Lib.hid hg; clear hf hg)
        go_roundw
        case rel => exact ⟨i - j, j, rfl, rfl, HS.out _ HF.out HG2.out⟩
        case measure => simp [intOf]; omega
      · have hd : decide ((i : Int) > (j : Int)) = false := decide_eq_false (by omega)
        have z1 : (m : Int) - (i : Int) = ((m - i : Nat) : Int) := by omega
        have z2 : (m : Int) + (j : Int) - (i : Int) = ((m + j - i : Nat) : Int) := by omega
        have z3 : (j : Int) - (i : Int) = ((j - i : Nat) : Int) := by omega
        obtain ⟨V1, V2, rfl, hv1⟩ : ∃ V1 V2, V = V1 ++ V2 ∧ V1.length = j - i := ⟨V.take (j - i), V.drop (j - i), (List.take_append_drop _ _).symm, by rw [List.length_take, HV.out]; omega⟩
        have hv2 : V2.length = i := by have := HV.out; simp at this; omega
        have HC := Lib.hid (HSW.out wr P' U V1 V2 S' (m - i) (m + j - i) i (by simpa using HFL.out) (by simpa using HN'.out) HU.out hv2 (by have := HP.out; omega) (by omega))
        have hstep : ∀ w', FlAt w' B g cap (P' ++ V2 ++ V1 ++ U ++ S') → wr.grownBy w' (some g) → Hid (RotI W B g cap G m N i (j - i) w') := fun w' h1 h2 => by
          refine Lib.hid ⟨P', V2, V1, U ++ S', hv2, hv1, hi, by omega, ?_, ?_, ?_, by simpa using h1, grown_again HGR.out h2⟩
          · have := HP.out; omega
          · rw [← HG.out]; simp
          · rw [← HN'.out]; simp; omega
        have HS := Lib.hid hstep
        clear hstep hv1 hv2 hij
        go_wp2_with (go_at_call 94; refine HC.out.mono ?_; rintro e w' ⟨rfl, hf, hg⟩; have HF := Lib.hid hf; have HG2 := Lib.hid hg; clear hf hg)
        go_roundw
        case rel => exact ⟨i, j - i, rfl, rfl, HS.out _ HF.out HG2.out⟩
        case measure => simp [intOf]; omega
end Go.Proofs.Ytaaohaihajccgaa
