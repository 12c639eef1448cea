import Derived.Test.YtifhmanmnjhfiaaDoorLxJ
import Derived.StillTailTactics
import Derived.BigRegion
import Derived.RegionTactic
import Derived.IntWalk
namespace Go.Proofs.YtifhmanmnjhfiaaDoor
open Go.RowKit RM LM
set_option linter.unusedVariables false

/-- The token where a reader is. -/
def peekT (ts : List Tok) (k : Nat) : Tok := if h : k < ts.length then ts[k] else if h : 0 < ts.length then ⟨4, ⟨#[]⟩, 0, (ts[ts.length - 1]).at_⟩ else ⟨4, ⟨#[]⟩, 0, 0⟩
theorem peekT_in {ts : List Tok} {k : Nat} (h : k < ts.length) : peekT ts k = ts[k] := by unfold peekT; rw [dif_pos h]
theorem peekT_end {ts : List Tok} {k : Nat} (h : ¬ k < ts.length) (h0 : 0 < ts.length) : peekT ts k = ⟨4, ⟨#[]⟩, 0, (ts[ts.length - 1]).at_⟩ := by unfold peekT; rw [dif_neg h, dif_pos h0]
theorem peekT_nil (k : Nat) : peekT [] k = ⟨4, ⟨#[]⟩, 0, 0⟩ := rfl

/-- In w the reader in block r has the tokens ts, and is at the k-th. -/
def Rd (w : World) (r : Nat) (ts : List Tok) (k : Nat) : Prop :=
  ∃ a cap, w.heap[r]? = some (.cells #[.slice a ts.length cap, .int .i64 k] 53 (0, 0)) ∧ Toks w a cap ts ∧ k ≤ ts.length ∧ (0 < ts.length → ∀ b off, a = some ⟨b, off, none⟩ → b ≠ r)

theorem Rd.lt {w : World} {r : Nat} {ts : List Tok} {k : Nat} (h : Rd w r ts k) : r < w.heap.size := by
  obtain ⟨a, cap, h, _⟩ := h
  rcases Nat.lt_or_ge r w.heap.size with hlt | hge
  · exact hlt
  · rw [Array.getElem?_eq_none hge] at h; cases h
theorem cell_blk {w : World} {g : Nat} {t : TypeId} {cs : Array Value} (h : w.heap[g]? = some (.cells cs t (0, 0))) (i : Nat) : w.cell? ⟨g, i, none⟩ = cs[i]? := by
  simp [World.cell?, h]
theorem frozen_blk {w : World} {g : Nat} {t : TypeId} {cs : Array Value} (h : w.heap[g]? = some (.cells cs t (0, 0))) (i : Nat) : w.frozen? ⟨g, i, none⟩ = false := by
  simp [World.frozen?, h]
theorem Rd.below {w w' : World} {r : Nat} {ts : List Tok} {k : Nat} (h : Rd w r ts k) (hb : Below w.heap.size w w') : Rd w' r ts k := by
  have hlt := h.lt
  obtain ⟨a, cap, h1, h2, h3, h4⟩ := h
  exact ⟨a, cap, by rw [hb.block r hlt]; exact h1, h2.below hb, h3, h4⟩

set_option maxRecDepth 100000 in
theorem Peek_any (r : Nat) (ts : List Tok) (k : Nat) (w : World) (h : Rd w r ts k) :
    Calls Tryd.prog 14 #[.pointer (some ⟨r, 0, none⟩)] w fun e w' => e = .returned (Tok.val (peekT ts k)) ∧ Below w.heap.size w w' := by
  have hlt := h.lt
  obtain ⟨a, cap, h1, h2, h3, h4⟩ := h
  have c0 : w.cell? ⟨r, 0, none⟩ = some (.slice a ts.length cap) := cell_blk h1 0
  have c1 : w.cell? ⟨r, 1, none⟩ = some (.int .i64 k) := cell_blk h1 1
  have hcap := h2.le
  have hmax := h2.mx
  have HT := Lib.hid h2
  clear h1 h2 h4
  by_cases h0 : ts.length = 0
  · have hts : ts = [] := List.length_eq_zero_iff.1 h0
    subst hts
    simp only [List.length_nil] at c0
    have HF := Lib.hid (peekT_nil k)
    clear h0 h3
    go_enter Tryd.func14, Tryd.ntmps14
    go_wp2
    exact bodyPost_ret (v := Tok.val ⟨4, ⟨#[]⟩, 0, 0⟩) (by simp [results, Tok.val, tokV, Tryd.results14, go_sem]) rfl ⟨by rw [HF.out], (Below.refl _ _).alloc (Nat.le_refl _) _⟩
  · have h0' : 0 < ts.length := by omega
    have hz : ((ts.length : Int) == 0) = false := by rw [beq_eq_false_iff_ne]; omega
    by_cases hk : k < ts.length
    · obtain ⟨b, off, rfl, hb, t0, t1, t2, t3⟩ := HT.out.at_ hk
      have HF := Lib.hid (peekT_in hk)
      generalize ht : ts[k] = t at *
      obtain ⟨tk, tt, tn, ta⟩ := t
      simp only [] at t0 t1 t2 t3
      clear ht h0
      go_enter Tryd.func14, Tryd.ntmps14
      go_wp2
      go_quiet (fail)
      go_wp2
      go_region
      go_wp2
      exact bodyPost_ret (v := Tok.val ⟨tk, tt, tn, ta⟩) (by simp [results, Tok.val, tokV, Tryd.results14, go_sem]) rfl ⟨by rw [HF.out], below_set4 (below_dN ((Below.refl _ _).alloc (Nat.le_refl _) _) _) _ _ _ _⟩
    · have hke : k = ts.length := by omega
      obtain ⟨b, off, rfl, hb, t0, t1, t2, t3⟩ := HT.out.at_ (k := ts.length - 1) (by omega)
      have HF := Lib.hid (peekT_end hk h0')
      generalize ht : ts[ts.length - 1] = t at *
      obtain ⟨tk, tt, tn, ta⟩ := t
      simp only [] at t0 t1 t2 t3 HF
      have hki : ¬ (k : Int) < ts.length := by omega
      clear ht h0
      have hsub2 : ((ts.length : Int) - 1).toNat = ts.length - 1 := by omega
      generalize hm : ts.length - 1 = m at *
      have hm1 : ts.length = m + 1 := by omega
      have hsub3 : 0 ≤ (ts.length : Int) - 1 := by omega
      have hsub4 : (ts.length : Int) - 1 < ts.length := by omega
      have hsub5 : IntKind.i64.wrap ((ts.length : Int) - 1) = (ts.length : Int) - 1 := IntWalk.i64_in _ (by omega)
      clear hke t0 t1 t2
      go_enter Tryd.func14, Tryd.ntmps14
      go_wp2
      go_quiet (fail)
      go_wp2
      go_region
      go_wp2
      trace_state
      exact bodyPost_ret (v := Tok.val ⟨4, ⟨#[]⟩, 0, ta⟩) (by simp [results, Tok.val, tokV, Tryd.results14, go_sem]) rfl ⟨by rw [HF.out], below_set4 (below_dN ((Below.refl _ _).alloc (Nat.le_refl _) _) _) _ _ _ _⟩
end Go.Proofs.YtifhmanmnjhfiaaDoor
