/- The document's once. -/
import Derived.Test.YtmjijmkdeblefaaKdX
import Derived.BigRegion
namespace Go.Proofs.Ytmjijmkdeblefaa
open Go.RowKit LM
set_option linter.unusedVariables false

def badH (a b : Hd) : Bool := decide (a.op = 7) && decide (b.op = 10) && decide (a.n = b.n)
theorem onceB_iff {ps : List PV} {l : List (Hd × Fo)} (h : ps.map PV.h = l.map (·.1)) :
    (onceB l = true ↔ ∀ (i j : Nat) (p p' : PV), ps[i]? = some p → ps[j]? = some p' → badH p.h p'.h = false) := by
  have e : onceB l = (l.map (·.1)).all fun a => (l.map (·.1)).all fun b => !badH a b := by
    simp only [onceB, List.all_map]; rfl
  rw [e, ← h]
  simp only [List.all_map, List.all_eq_true, Function.comp, Bool.not_eq_true']
  constructor
  · intro hh i j p p' h1 h2
    exact hh p (List.mem_of_getElem? h1) p' (List.mem_of_getElem? h2)
  · intro hh p hp p' hp'
    obtain ⟨i, hi⟩ := List.getElem?_of_mem hp
    obtain ⟨j, hj⟩ := List.getElem?_of_mem hp'
    exact hh i j p p' hi hj

theorem bad_next {p p' : PV} {ps : List PV} {j : Nat} (h : ∀ (b : Nat) (p' : PV), b < j → ps[b]? = some p' → badH p.h p'.h = false) (hp : ps[j]? = some p') (hb : badH p.h p'.h = false) :
    ∀ (b : Nat) (p' : PV), b < j + 1 → ps[b]? = some p' → badH p.h p'.h = false := by
  intro b p0 hbj h0
  by_cases e : b = j
  · subst e
    have e0 : p0 = p' := Option.some.inj (h0.symm.trans hp)
    subst e0; exact hb
  · exact h b p0 (by omega) h0

theorem below_drewN {B : Nat} {a w : World} (h : Below B a w) (n : Nat) : Below B a (w.drewN n) := ⟨h.os, h.tape, h.output, h.size, h.block⟩
/-- What once keeps. -/
structure OnI (w : World) (g : Nat) (ps : List PV) (wr : World) : Prop where
  cells : ∀ j u, (pvCells ps)[j]? = some u → wr.cell? ⟨g, 0 + j, none⟩ = some u
  below : Below w.heap.size w wr
theorem OnI.at_ {w wr : World} {g : Nat} {ps : List PV} (h : OnI w g ps wr) {i : Nat} {p : PV} (hp : ps[i]? = some p) :
    wr.cell? ⟨g, i * 4, none⟩ = some (.int .u8 p.h.op) ∧ wr.cell? ⟨g, i * 4 + 2, none⟩ = some (.int .i64 p.h.n) := by
  obtain ⟨h1, h2⟩ := pvCells_get ps i p hp
  have a := h.cells _ _ h1
  have b := h.cells _ _ h2
  rw [Nat.zero_add] at a b
  exact ⟨a, b⟩
theorem OnI.drewN {w wr : World} {g : Nat} {ps : List PV} (h : OnI w g ps wr) (n : Nat) : OnI w g ps (wr.drewN n) := ⟨h.cells, below_drewN h.below n⟩

set_option maxRecDepth 100000 in
set_option maxHeartbeats 2000000 in
theorem once_any (h : Hd) (k : Fo) (q : Option Addr) (cap : Nat) (w : World) (hsz : 1 + k.size ≤ 1099511627776) (hsl : SlF w q cap k) :
    Calls Try.prog 60 #[.agg #[.int .u8 h.op, .string h.name, .int .i64 h.n, .slice q k.len cap]] w fun e w' => e = .returned (.bool (onceB ((h, k) :: k.flat))) ∧ Below w.heap.size w w' := by
  have HP := Lib.hid (Parts_any (k.size + 1) h k q cap (w.alloc (.cells #[.int .u8 h.op, .string h.name, .int .i64 h.n, .slice q k.len cap] 25)) (by omega) hsz (hsl.below (below_box _ _)))
  have HY := Lib.hid fun (ps : List PV) (hps : ps.map PV.h = h :: k.flat.map (·.1)) => onceB_iff (ps := ps) (l := (h, k) :: k.flat) hps
  have HN : Hid (∀ ps : List PV, ps.map PV.h = h :: k.flat.map (·.1) → ps.length = 1 + k.size) := Lib.hid fun ps hps => by
    have := congrArg List.length hps
    simp [Fo.length_flat] at this; omega
  clear hsl
  generalize onceB ((h, k) :: k.flat) = r at *
  generalize hN : 1 + k.size = N at *
  have HNN := Lib.hid hN
  clear hN
  go_enter Try.func60, Try.ntmps60
  go_wp2_with (go_at_call 53; refine HP.out.mono ?_; rintro e w1 ⟨v1, ps, rfl, own1, hps, hb1⟩; have hN2 : 1 + k.size = N := HNN.out; rw [hN2] at own1; obtain ⟨g, cp, cur, rfl, hg, hb1g, hcp, hcm, hcl⟩ := own_some own1 (by omega); have HON := Lib.hid (OnI.mk (w := w) hcl (below_then (below_box _ _) hb1)); have HR := Lib.hid (HY.out ps hps); have HL := Lib.hid (HN.out ps hps); clear hb1 hcl own1 hb1g hg hps hN2)
  go_loopw [4] (fun iv wr => ∃ i : Nat, iv = .int .i64 i ∧ i ≤ N ∧ (∀ (a b : Nat) (p p' : PV), a < i → ps[a]? = some p → ps[b]? = some p' → badH p.h p'.h = false) ∧ OnI w g ps wr) (fun iv _ => N - (intOf iv).toNat)
  case atStart => exact ⟨0, rfl, Nat.zero_le _, (fun a b p p' ha => by omega), HON.out⟩
  case round =>
    obtain ⟨i, rfl, hi, hal, hI⟩ := hrel
    have HI := Lib.hid hI
    have HAL := Lib.hid hal
    clear hI hal
    by_cases hiN : i < N
    · obtain ⟨p, hp⟩ : ∃ p, ps[i]? = some p := ⟨_, List.getElem?_eq_getElem (by rw [HL.out]; exact hiN)⟩
      have HP1 := Lib.hid hp
      clear hp
      go_wp2
      go_loopw [5] (fun jv wr => ∃ j : Nat, jv = .int .i64 j ∧ j ≤ N ∧ (∀ (b : Nat) (p' : PV), b < j → ps[b]? = some p' → badH p.h p'.h = false) ∧ OnI w g ps wr) (fun jv _ => N - (intOf jv).toNat)
      case atStart => exact ⟨0, rfl, Nat.zero_le _, (fun b p' hb => by omega), HI.out⟩
      case round =>
        obtain ⟨j, rfl, hj, hbl, hJ⟩ := hrel
        have HJ := Lib.hid hJ
        have HBL := Lib.hid hbl
        clear hJ hbl
        by_cases hjN : j < N
        · obtain ⟨p', hp'⟩ : ∃ p, ps[j]? = some p := ⟨_, List.getElem?_eq_getElem (by rw [HL.out]; exact hjN)⟩
          obtain ⟨c1, c2⟩ := HJ.out.at_ HP1.out
          obtain ⟨d1, d2⟩ := HJ.out.at_ hp'
          have HP2 := Lib.hid hp'
          have HB : Hid (badH p.h p'.h = (decide (p.h.op = 7) && decide (p'.h.op = 10) && decide (p.h.n = p'.h.n))) := Lib.hid rfl
          clear hp'
          go_wp2
          generalize p.h.op = o1 at *
          generalize p'.h.op = o2 at *
          generalize p.h.n = n1 at *
          generalize p'.h.n = n2 at *
          have i0 : (0 : Int) ≤ i := by omega
          have i1 : (i : Int) < N := by omega
          have j0 : (0 : Int) ≤ j := by omega
          have j1 : (j : Int) < N := by omega
          by_cases h1 : o1 = 7
          · have t1 : (o1 == 7) = true := by simpa using h1
            by_cases h2 : o2 = 10
            · have t2 : (o2 == 10) = true := by simpa using h2
              by_cases h3 : n1 = n2
              · have t3 : (n1 == n2) = true := by simpa using h3
                go_quiet (fail)
                clear i0 i1 j0 j1
                go_wp2
                go_ret
                refine ⟨ret_bool (Eq.symm ?_), below_drewN HJ.out.below _⟩
                rw [Bool.eq_false_iff]
                intro hr
                have := HR.out.1 hr i j p p' HP1.out HP2.out
                rw [HB.out] at this
                simp [h1, h2, h3] at this
              · have t3 : (n1 == n2) = false := by simpa using h3
                go_quiet (fail)
                clear i0 i1 j0 j1
                go_wp2
                go_roundw
                case rel => exact ⟨j + 1, by go_num, hjN, (fun b p0 hb h0 => bad_next HBL.out HP2.out (by rw [HB.out]; simp [h3]) b p0 hb h0), HJ.out.drewN _⟩
                case measure => simp [intOf]; omega
            · have t2 : (o2 == 10) = false := by simpa using h2
              go_quiet (fail)
              clear i0 i1 j0 j1
              go_wp2
              go_roundw
              case rel => exact ⟨j + 1, by go_num, hjN, (fun b p0 hb h0 => bad_next HBL.out HP2.out (by rw [HB.out]; simp [h2]) b p0 hb h0), HJ.out.drewN _⟩
              case measure => simp [intOf]; omega
          · have t1 : (o1 == 7) = false := by simpa using h1
            go_quiet (fail)
            clear i0 i1 j0 j1
            go_wp2
            go_roundw
            case rel => exact ⟨j + 1, by go_num, hjN, (fun b p0 hb h0 => bad_next HBL.out HP2.out (by rw [HB.out]; simp [h1]) b p0 hb h0), HJ.out.drewN _⟩
            case measure => simp [intOf]; omega
        · have hje : j = N := by omega
          have HJE := Lib.hid hje
          clear hje
          go_wp2
          go_roundw
          case rel =>
            refine ⟨i + 1, by go_num, hiN, ?_, HJ.out⟩
            intro a b p0 p' ha h0 h'
            by_cases hai : a = i
            · subst hai
              have e0 : p0 = p := Option.some.inj (h0.symm.trans HP1.out)
              subst e0
              have hb : b < j := by rw [HJE.out, ← HL.out]; exact (List.getElem?_eq_some_iff.1 h').1
              exact HBL.out b p' hb h'
            · exact HAL.out a b p0 p' (by omega) h0 h'
          case measure => simp [intOf]; omega
    · have hie : i = N := by omega
      have HIE := Lib.hid hie
      clear hie
      go_wp2
      go_ret
      refine ⟨ret_bool (Eq.symm (HR.out.2 ?_)), HI.out.below⟩
      intro a b p0 p' h0 h'
      exact HAL.out a b p0 p' (by rw [HIE.out, ← HL.out]; exact (List.getElem?_eq_some_iff.1 h0).1) h0 h'

end Go.Proofs.Ytmjijmkdeblefaa
