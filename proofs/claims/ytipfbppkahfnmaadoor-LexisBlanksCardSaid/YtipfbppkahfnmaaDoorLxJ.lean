import Derived.Test.YtipfbppkahfnmaaDoorLxI
import Derived.Deep.QuietTactic
import Derived.BigQuiet
import Derived.Laws.StructEq
namespace Go.Proofs.YtipfbppkahfnmaaDoor
open Go.RowKit RM LM
set_option linter.unusedVariables false

theorem text_eq {s s' : ByteArray} : s = s' ↔ s.toList = s'.toList := by
  constructor
  · intro h; rw [h]
  · intro h
    rw [ByteArray.toList_eq, ByteArray.toList_eq] at h
    obtain ⟨⟨x⟩⟩ := s
    obtain ⟨⟨y⟩⟩ := s'
    simp at h
    rw [h]
theorem eqTok (k k' : Int) (s s' : ByteArray) (n n' a a' : Int) (w : World) :
    (Op.equalIn 10000 37 (.agg #[.int .u8 k, .string s, .int .i64 n, .int .i64 a]) (.agg #[.int .u8 k', .string s', .int .i64 n', .int .i64 a'])).run Tryd.prog w = .ok (decide ((⟨k, s, n, a⟩ : Tok) = ⟨k', s', n', a'⟩)) w := by
  have hS : Tryd.prog.underlying 37 = some (.struct (Tryd.prog.fieldsOf 37)) := by kernel_rfl
  have hp : Tryd.prog.stoodInHeld 37 = false := by kernel_rfl
  rw [show (10000 : Nat) = 9999 + 1 from rfl, run_equalIn_agg w 9999 37 _ _ hS hp]
  simp only [Program.fieldsOf, Tryd.underlying37]
  go_simp
  have e : s = s' ↔ s.toList = s'.toList := text_eq
  by_cases h1 : k = k' <;> by_cases h2 : s.toList = s'.toList <;> by_cases h3 : n = n' <;> by_cases h4 : a = a' <;> simp [h1, h2, h3, h4, e]

theorem toks_step {ts ts' : List Tok} {k : Nat} (h : k < ts.length) (h' : k < ts'.length) (e : ts.take k = ts'.take k) (g : ts[k] = ts'[k]) : ts.take (k + 1) = ts'.take (k + 1) := by
  rw [List.take_succ_eq_append_getElem h, List.take_succ_eq_append_getElem h', e, g]

set_option maxRecDepth 100000 in
set_option maxHeartbeats 2000000 in
theorem tokSame_any (a : Option Addr) (cap : Nat) (ts : List Tok) (a' : Option Addr) (cap' : Nat) (ts' : List Tok) (w : World) (h : Toks w a cap ts) (h' : Toks w a' cap' ts') :
    Calls Tryd.prog 10 #[.slice a ts.length cap, .slice a' ts'.length cap'] w fun e w' => e = .returned (.bool (decide (ts = ts'))) ∧ ∃ n, w' = w.drewN n := by
  have hcap := h.le
  have hcap' := h'.le
  have hmax := h.mx
  have hmax' := h'.mx
  by_cases hl : ts.length = ts'.length
  · have hl' : ((ts.length : Int) != (ts'.length : Int)) = false := by simp [hl]
    have HL := Lib.hid hl
    clear hl
    have HS := Lib.hid h
    have HS' := Lib.hid h'
    clear h h'
    go_enter Tryd.func10, Tryd.ntmps10
    go_wp2
    go_loopw [5] (fun i w1 => ∃ k : Nat, k ≤ ts.length ∧ i = .int .i64 k ∧ Hid (ts.take k = ts'.take k) ∧ ∃ n, w1 = w.drewN n) (fun i _ => ts.length - (intOf i).toNat)
    case atStart => exact ⟨0, by omega, rfl, rfl, 0, rfl⟩
    case round =>
      obtain ⟨k, hk, rfl, hgood, n, rfl⟩ := hrel
      by_cases hlt : k < ts.length
      · have hlt' : k < ts'.length := by have := HL.out; omega
        obtain ⟨b, off, rfl, hin, c0, c1, c2, c3⟩ := HS.out.at_ hlt
        obtain ⟨b', off', rfl, hin', d0, d1, d2, d3⟩ := HS'.out.at_ hlt'
        generalize ht : ts[k] = t at *
        generalize ht' : ts'[k] = t' at *
        have HT := Lib.hid ht
        have HT' := Lib.hid ht'
        clear ht ht'
        obtain ⟨tk, tt, tn, ta⟩ := t
        obtain ⟨sk, st, sn, sa⟩ := t'
        simp only [] at c0 c1 c2 c3 d0 d1 d2 d3
        by_cases he : (⟨tk, tt, tn, ta⟩ : Tok) = ⟨sk, st, sn, sa⟩
        · have HE := Lib.hid (toks_step hlt hlt' hgood.out (by rw [HT.out, HT'.out, he]))
          have heq : ∀ W, (Op.equalIn 10000 37 (.agg #[.int .u8 tk, .string tt, .int .i64 tn, .int .i64 ta]) (.agg #[.int .u8 sk, .string st, .int .i64 sn, .int .i64 sa])).run Tryd.prog W = .ok true W := fun W => by
            rw [eqTok, decide_eq_true he]
          clear he
          go_wp2
          go_quiet (fail)
          go_wp2
          go_roundw
          case rel => exact ⟨k + 1, by omega, by go_num, HE.out, _, rfl⟩
          case measure => simp [intOf]; omega
        · have HE := Lib.hid (show decide (ts = ts') = false by
            rw [decide_eq_false_iff_not]
            intro e
            subst e
            exact he (HT.out.symm.trans HT'.out))
          have heq : ∀ W, (Op.equalIn 10000 37 (.agg #[.int .u8 tk, .string tt, .int .i64 tn, .int .i64 ta]) (.agg #[.int .u8 sk, .string st, .int .i64 sn, .int .i64 sa])).run Tryd.prog W = .ok false W := fun W => by
            rw [eqTok, decide_eq_false he]
          clear he
          go_wp2
          go_quiet (fail)
          go_wp2
          go_ret
          exact ⟨ret_bool HE.out.symm, _, World.drewN_drewN _ _ _⟩
      · have he : decide (ts = ts') = true := by
          rw [decide_eq_true_iff]
          have h1 := hgood.out
          rw [List.take_of_length_le (by omega), List.take_of_length_le (by have := HL.out; omega)] at h1
          exact h1
        have HE := Lib.hid he
        clear he
        go_wp2
        go_ret
        exact ⟨ret_bool HE.out.symm, _, rfl⟩
  · have hl' : ((ts.length : Int) != (ts'.length : Int)) = true := by simp; omega
    go_enter Tryd.func10, Tryd.ntmps10
    go_wp2
    go_ret
    exact ⟨ret_bool (by rw [eq_comm, decide_eq_false]; intro e; exact hl (by rw [e])), 0, rfl⟩
end Go.Proofs.YtipfbppkahfnmaaDoor
