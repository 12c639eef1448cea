import Derived.Test.YtipfbppkahfnmaaDoorRnB
import Derived.Deep.QuietTactic
import Derived.BigQuiet
import Derived.Deep.Light
namespace Go.Proofs.YtipfbppkahfnmaaDoor
open Go.RowKit RM
set_option linter.unusedVariables false

/-- A new slice that reads as l. -/
def NewSl (k : IntKind) (l : List Int) (w : World) (e : Ending) (w' : World) : Prop :=
  ∃ a cap, e = .returned (.slice a l.length cap) ∧ Sl k w' a cap l ∧ Below w.heap.size w w'

theorem getD_map {k : IntKind} {l : List Int} {i : Nat} (h : i < l.length) : (l.map (Value.int k)).toArray[i]? = some (.int k (l.getD i 0)) := by
  simp [List.getD_eq_getElem?_getD, List.getElem?_eq_getElem h]

theorem sl_alloc {k : IntKind} {l : List Int} (w : World) (T : TypeId) (hm : l.length ≤ 9223372036854775807) :
    Sl k (w.alloc (.cells (l.map (Value.int k)).toArray T)) (some ⟨w.heap.size, 0, none⟩) l.length l := by
  refine ⟨Nat.le_refl _, hm, .inr ⟨_, 0, rfl, by simp, fun i hi => ?_⟩, fun h => by cases h⟩
  rw [World.cell?_alloc_at _ _ _ _ rfl, Nat.zero_add, getD_map hi]

theorem newSl_alloc {k : IntKind} {l : List Int} {w : World} {vs : Array Value} {T : TypeId} {n : Nat} (hv : vs = (l.map (Value.int k)).toArray) (hn : l.length = n) (hm : n ≤ 9223372036854775807) :
    NewSl k l w (.returned (.slice (some ⟨w.heap.size, 0, none⟩) n n)) (w.alloc (.cells vs T)) := by
  subst hv hn
  exact ⟨_, _, rfl, sl_alloc w T hm, (Below.refl _ _).alloc (Nat.le_refl _) _⟩

theorem Bytes_any (r : Int) (w : World) (h : isPt r = true) :
    Calls Tryd.prog 36 #[.int .i64 r] w (NewSl .u8 (encB r) w) := by
  have hp := isPt_iff.1 h
  have h1 : 0 ≤ r ∧ r ≤ 1114111 := by omega
  obtain ⟨h1, h2⟩ := h1
  clear h hp
  go_enter Tryd.func36, Tryd.ntmps36
  go_wp2
  all_goals (go_ret; refine newSl_alloc ?_ ?_ (by omega))
  all_goals (unfold encB; (repeat' split) <;> first | (exfalso; omega) | rfl)

theorem take_step {l l' : List Int} {k : Nat} (h : k < l.length) (h' : k < l'.length) (e : l.take k = l'.take k) (g : l.getD k 0 = l'.getD k 0) : l.take (k + 1) = l'.take (k + 1) := by
  rw [List.take_succ_eq_append_getElem h, List.take_succ_eq_append_getElem h', e]
  rw [List.getD_eq_getElem?_getD, List.getD_eq_getElem?_getD, List.getElem?_eq_getElem h, List.getElem?_eq_getElem h'] at g
  simp at g
  rw [g]

theorem Same_any (a : Option Addr) (cap : Nat) (l : List Int) (a' : Option Addr) (cap' : Nat) (l' : List Int) (w : World) (h : Sl .u8 w a cap l) (h' : Sl .u8 w a' cap' l') :
    Calls Tryd.prog 35 #[.slice a l.length cap, .slice a' l'.length cap'] w fun e w' => e = .returned (.bool (decide (l = l'))) ∧ ∃ n, w' = w.drewN n := by
  have hcap := h.le
  have hmax := h.mx
  have hcap' := h'.le
  have hmax' := h'.mx
  by_cases hl : l.length = l'.length
  · have hl' : ((l.length : Int) != (l'.length : Int)) = false := by simp [hl]
    have HL := Lib.hid hl
    clear hl
    have HS := Lib.hid h
    have HS' := Lib.hid h'
    clear h h'
    go_enter Tryd.func35, Tryd.ntmps35
    go_wp2
    go_loopw [5] (fun i w1 => ∃ k : Nat, k ≤ l.length ∧ i = .int .i64 k ∧ Hid (l.take k = l'.take k) ∧ ∃ n, w1 = w.drewN n) (fun i _ => l.length - (intOf i).toNat)
    case atStart => exact ⟨0, by omega, rfl, rfl, 0, rfl⟩
    case round =>
      obtain ⟨k, hk, rfl, hgood, n, rfl⟩ := hrel
      by_cases hlt : k < l.length
      · rcases HS.out.rd with e | ⟨b, off, rfl, hin, hc⟩
        · rw [e] at hlt; simp at hlt
        have hlk' : k < l'.length := by rw [← HL.out]; omega
        rcases HS'.out.rd with e | ⟨b', off', rfl, hin', hc'⟩
        · rw [e] at hlk'; simp at hlk'
        have c1 := hc k (by omega)
        have c2 := hc' k (by omega)
        clear hc hc'
        generalize hx : l.getD k 0 = x at *
        generalize hy : l'.getD k 0 = y at *
        have HX := Lib.hid hx
        have HY := Lib.hid hy
        clear hx hy
        by_cases hxy : x = y
        · have hxy' : (x != y) = false := by simp [hxy]
          have HXY := Lib.hid hxy
          clear hxy
          go_wp2
          go_quiet (fail)
          go_wp2
          go_roundw
          case rel =>
            refine ⟨k + 1, by omega, by go_num, ?_, _, rfl⟩
            exact take_step hlt hlk' hgood.out (by rw [HX.out, HY.out]; exact HXY.out)
          case measure => simp [intOf]; omega
        · have hxy' : (x != y) = true := by simp [hxy]
          have hne : decide (l = l') = false := by
            rw [decide_eq_false_iff_not]
            intro e
            apply hxy
            rw [← HX.out, ← HY.out, e]
          have HN := Lib.hid hne
          clear hne hxy
          go_wp2
          go_quiet (fail)
          go_wp2
          go_ret
          exact ⟨ret_bool HN.out.symm, _, World.drewN_drewN _ _ _⟩
      · have hke : k = l.length := by omega
        have he : decide (l = l') = true := by
          rw [decide_eq_true_iff]
          have h1 := hgood.out
          rw [List.take_of_length_le (by omega), List.take_of_length_le (by rw [← HL.out]; omega)] at h1
          exact h1
        have HE := Lib.hid he
        clear he hke
        go_wp2
        go_ret
        exact ⟨ret_bool HE.out.symm, _, rfl⟩
  · have hl' : ((l.length : Int) != (l'.length : Int)) = true := by simp; omega
    go_enter Tryd.func35, Tryd.ntmps35
    go_wp2
    go_ret
    exact ⟨ret_bool (by rw [eq_comm, decide_eq_false]; intro e; exact hl (by rw [e])), 0, rfl⟩
end Go.Proofs.YtipfbppkahfnmaaDoor
