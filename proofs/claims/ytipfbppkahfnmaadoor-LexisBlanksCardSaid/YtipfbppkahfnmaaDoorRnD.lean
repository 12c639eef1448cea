import Derived.Test.YtipfbppkahfnmaaDoorRnC
import Derived.Deep.RegionWith
import Derived.Deep.CutRange
import Derived.Deep.RegionHeld3
import Derived.Deep.Light
import Derived.Deep.LoopGhost
namespace Go.Proofs.YtipfbppkahfnmaaDoor
open Go.RowKit RM
set_option linter.unusedVariables false

/-- What At answers. -/
noncomputable def atV (l : List Int) (p : Nat) : Value := .tuple #[.int .i64 (decR l p), .int .i64 (decN l p)]

theorem Same_at (a : Option Addr) (n cap : Nat) (l : List Int) (a' : Option Addr) (n' cap' : Nat) (l' : List Int) (w : World) (h : Sl .u8 w a cap l) (h' : Sl .u8 w a' cap' l') (hn : l.length = n) (hn' : l'.length = n') :
    Calls Tryd.prog 35 #[.slice a n cap, .slice a' n' cap'] w fun e w' => e = .returned (.bool (decide (l = l'))) ∧ ∃ n, w' = w.drewN n := by
  subst hn hn'
  exact Same_any a cap l a' cap' l' w h h'


theorem below_dN {B : Nat} {w w1 : World} (h : Below B w w1) (n : Nat) : Below B w (w1.drewN n) := ⟨h.os, h.tape, h.output, h.size, h.block⟩

theorem Is_q (r : Int) (v : Bool) (w : World) (h : isPt r = v) (h1 : -9223372036854775808 ≤ r) (h2 : r ≤ 9223372036854775807) :
    Calls Tryd.prog 34 #[.int .i64 r] w fun e w' => e = .returned (.bool v) ∧ w' = w := by
  subst h
  exact (Is_any r w h1 h2).mono fun e w' h => ⟨h.1, h.2.symm⟩

theorem Is_bool (r : Int) (v : Bool) (w : World) (h : isPt r = v) (h1 : -9223372036854775808 ≤ r) (h2 : r ≤ 9223372036854775807) :
    Calls Tryd.prog 34 #[.int .i64 r] w fun e w' => e = .returned (.bool v) ∧ w = w' := by
  subst h
  exact Is_any r w h1 h2

set_option maxHeartbeats 4000000 in
set_option maxRecDepth 100000 in
theorem At_any (a : Option Addr) (cap : Nat) (l : List Int) (p : Nat) (w : World) (h : Sl .u8 w a cap l) (hb : Byt l) (hL : l.length ≤ 5000) (hp : p < l.length) :
    Calls Tryd.prog 20 #[.slice a l.length cap, .int .i64 p] w fun e w' => e = .returned (atV l p) ∧ Below w.heap.size w w' := by
  have hcap := h.le
  have hmax := h.mx
  rcases h.rd with e | ⟨b, off, rfl, hlt, hc⟩
  · rw [e] at hp; simp at hp
  have HB := Lib.hid hb
  have HC := Lib.hid hc
  clear hb hc h
  go_enter Tryd.func20, Tryd.ntmps20
  go_wp2
  go_loopw [6, 7, 8] (fun n r i w1 => ∃ k : Nat, 1 ≤ k ∧ k ≤ 5 ∧ n = .int .i64 k ∧ Hid (∀ r, Dec l p r → k ≤ (encB r).length) ∧ Below w.heap.size w w1) (fun n _ _ _ => 5 - (intOf n).toNat)
  case atStart => exact ⟨1, by omega, by omega, rfl, fun r hr => (encB_len r).1, Below.refl _ _⟩
  case round =>
    obtain ⟨n, hn1, hn5, rfl, hno, hbel⟩ := hrel
    by_cases hin : n ≤ 4 ∧ p + n ≤ l.length
    · obtain ⟨hn4, hpn⟩ := hin
      have hsz : w.heap.size ≤ wr.heap.size := hbel.size
      have hc0 : wr.cell? ⟨b, off + p, none⟩ = some (.int .u8 (l.getD p 0)) := by
        rw [hbel.cell (p := ⟨b, off + p, none⟩) hlt]; exact HC.out p hp
      have hb0 := HB.out p hp
      generalize hcc : l.getD p 0 = c at *
      have HCC := Lib.hid hcc
      clear hcc
      obtain ⟨hb1, hb2⟩ := hb0
      have hbw : b < wr.heap.size := by omega
      go_upto_if 27 with (fail)
      go_cut [7] from 9 to 64 (fun r wc => r = .int .i64 (c - base n) ∧ Below w.heap.size w wc)
      case first =>
        have h4 : n = 1 ∨ n = 2 ∨ n = 3 ∨ n = 4 := by omega
        rcases h4 with rfl | rfl | rfl | rfl
        · go_wp2_with fail
          go_meet
          case rel => exact ⟨by simp [base], hbel⟩
        all_goals
          go_wp2_with fail
          go_meet
          case rel => exact ⟨rfl, hbel.alloc hsz _⟩
      case rest =>
        obtain ⟨rfl, hbel⟩ := hcut
        have hbase : 0 ≤ base n ∧ base n ≤ 240 := by unfold base; split <;> omega
        obtain ⟨hbs1, hbs2⟩ := hbase
        have hsz : w.heap.size ≤ wc.heap.size := hbel.size
        have hbw : b < wc.heap.size := by omega
        go_wp2_with fail
        go_loop [7, 8] (fun r i => ∃ k : Nat, k + 1 ≤ n ∧ i = .int .i64 (k + 1) ∧ r = .int .i64 (cnd l p (c - base n) k)) (fun _ i => 5 - (intOf i).toNat)
        case atStart => exact ⟨0, by omega, rfl, rfl⟩
        case round =>
          obtain ⟨k, hk, rfl, rfl⟩ := hrel
          have hbd := cnd_bd (l := l) (p := p) (r0 := c - base n) (by omega) (by omega) k (by omega) HB.out (by omega)
          generalize hr : cnd l p (c - base n) k = r at *
          have HR := Lib.hid hr
          clear hr
          obtain ⟨hr1, hr2⟩ := hbd
          by_cases hkk : k + 1 < n
          · have hd : wc.cell? ⟨b, off + (p + (k + 1)), none⟩ = some (.int .u8 (l.getD (p + (k + 1)) 0)) := by
              rw [hbel.cell (p := ⟨b, off + (p + (k + 1)), none⟩) hlt]; exact HC.out _ (by omega)
            have hdb := HB.out (p + (k + 1)) (by omega)
            generalize hdd : l.getD (p + (k + 1)) 0 = d at *
            have HD := Lib.hid hdd
            clear hdd
            obtain ⟨hd1, hd2⟩ := hdb
            go_wp2
            go_round
            case rel =>
              refine ⟨k + 1, by omega, by go_num, ?_⟩
              show _ = Value.int .i64 (64 * cnd l p (c - base n) k + l.getD (p + (k + 1)) 0 - 128)
              rw [HR.out, HD.out]
            case measure => simp [intOf]; omega
          · have hke : k = n - 1 := by omega
            have HV : Hid (cv l p n = r) := by
              show cnd l p (l.getD p 0 - base n) (n - 1) = r
              rw [HCC.out, ← hke]; exact HR.out
            clear hke
            have HS : ∀ w1, Below w.heap.size w w1 → Sl .u8 w1 (some ⟨b, off + p, none⟩) (cap - p) ((l.drop p).take n) := by
              intro w1 hb1
              have hs1 := hb1.size
              refine ⟨by simp; omega, by omega, .inr ⟨b, off + p, rfl, by omega, fun i hi => ?_⟩, fun h => by cases h⟩
              have hi' : i < n := by simp at hi; omega
              rw [hb1.cell (p := ⟨b, off + p + i, none⟩) hlt, Nat.add_assoc, HC.out (p + i) (by omega)]
              simp [List.getD_eq_getElem?_getD, List.getElem?_drop, hi']
            have HSS := Lib.hid HS
            clear HS
            have hlen : ((l.drop p).take n).length = n := by simp; omega
            have HLN := Lib.hid hlen
            clear hlen
            have hpc1 : p < cap := by omega
            have hpc2 : p + n ≤ cap := by omega
            have hz1 : 0 ≤ (p : Int) + n := by omega
            have hz2 : ((p : Int) + n).toNat = p + n := by omega
            have hz3 : IntKind.i64.wrap ((p : Int) + n) = (p : Int) + n := IntWalk.i64_in _ (by omega)
            go_wp2
            have hz4 : (p : Int) ≤ (p : Int) + n := by omega
            have hz5 : (p : Int) + n ≤ (cap : Int) := by omega
            go_cut [62] from 9 to 64 (fun v wx => v = .bool (decide (isPt r = true ∧ encB r = (l.drop p).take n)) ∧ Below w.heap.size w wx)
            case first =>
              by_cases gp : isPt r = true
              · have HP := Lib.hid gp
                clear gp
                go_region_held3 (fun w' => Below w.heap.size w w') (first | assumption | exact hbel.drew | (refine Below.trans (by assumption) (Below.mono HB1.out ?_); apply Below.size; assumption) | exact below_dN (by assumption) _) (first | (go_at_call 34; refine (Is_bool _ true _ HP.out (by omega) (by omega)).mono ?_; rintro e w' ⟨rfl, rfl⟩) | (go_at_call 36; refine (Bytes_any _ _ HP.out).mono ?_; rintro e w1 ⟨a1, cap1, rfl, hs1, hb1⟩; have HB1 := Lib.hid hb1; have HS1 := Lib.hid hs1; clear hb1 hs1) | (go_at_call 35; refine (Same_at _ _ _ _ _ _ _ _ _ HS1.out (HSS.out _ (by assumption)) rfl HLN.out).mono ?_; rintro e w2 ⟨rfl, n2, rfl⟩))
                all_goals
                  go_wp2_with fail
                  go_meet
                  case rel =>
                    have hp1 := HP.out
                    exact ⟨congrArg Value.bool (by rw [hp1]; simp), by assumption⟩
              · have gp' : isPt r = false := by simpa using gp
                have HP := Lib.hid gp'
                clear gp gp'
                go_quiet ((go_at_call 34; exact Calls.quiet_of_same (Is_q _ false _ HP.out (by omega) (by omega))))
                all_goals
                  go_wp2_with fail
                  go_meet
                  case rel =>
                    have hp1 := HP.out
                    exact ⟨congrArg Value.bool (by rw [hp1]; simp), below_dN hbel _⟩
            case rest =>
              obtain ⟨rfl, hbel⟩ := hcut
              have hVV := HV.out
              have hLN := HLN.out
              clear HV HR HSS HLN
              by_cases hy : isPt r = true ∧ encB r = (l.drop p).take n
              · have hdec : decide (isPt r = true ∧ encB r = (l.drop p).take n) = true := decide_eq_true hy
                have hfin : atV l p = .tuple #[.int .i64 r, .int .i64 n] := by
                  subst hVV
                  obtain ⟨h1, h2⟩ := cv_yes hpn hy.1 hy.2
                  unfold atV; rw [h1.r, h1.n, h2]
                have HF := Lib.hid hfin
                clear hfin hVV hy hLN hz3 hz2
                rw [hdec]
                go_wp2
                go_ret2
                exact ⟨by rw [HF.out]; rfl, hbel⟩
              · have hdec : decide (isPt r = true ∧ encB r = (l.drop p).take n) = false := decide_eq_false hy
                have hno' : ∀ s, Dec l p s → n + 1 ≤ (encB s).length := by
                  intro s hs
                  have h1 := hno.out s hs
                  have h2 := cv_no (l := l) (p := p) (n := n) (by
                    subst hVV
                    by_cases e : isPt (cv l p n) = true
                    · exact .inr fun e2 => hy ⟨e, e2⟩
                    · exact .inl (by simpa using e)) s hs
                  omega
                have HN := Lib.hid hno'
                clear hno' hVV hy hLN hz3 hz2
                rw [hdec]
                go_wp2
                go_roundw
                case rel => exact ⟨n + 1, by omega, by omega, by go_num, HN.out, hbel⟩
                case measure => simp [intOf]; omega
    · have hdone : 4 < n ∨ l.length < p + n := by omega
      have hfin : atV l p = .tuple #[.int .i64 0, .int .i64 0] := by
        have := none_of hno.out hdone
        unfold atV; rw [this.1, this.2]; rfl
      have HF := Lib.hid hfin
      clear hfin
      by_cases h4 : n ≤ 4
      · have h5 : l.length < p + n := by omega
        go_wp2
        go_ret2
        exact ⟨by rw [HF.out]; rfl, hbel⟩
      · go_wp2
        go_ret2
        exact ⟨by rw [HF.out]; rfl, hbel⟩
end Go.Proofs.YtipfbppkahfnmaaDoor
