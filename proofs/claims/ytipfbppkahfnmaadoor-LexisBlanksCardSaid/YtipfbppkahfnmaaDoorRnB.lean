import Derived.Test.YtipfbppkahfnmaaDoorRows
import Derived.Test.YtipfbppkahfnmaaDoorRnM
import Derived.WalkKit
import Derived.ProofKit
import Derived.Below
import Derived.Outline
import Derived.Lib.Hide
import Derived.Laws.BitsLemmas
namespace Go.Proofs.YtipfbppkahfnmaaDoor
open Go.RowKit RM
set_option linter.unusedVariables false

theorem ret_bool {a b : Bool} (h : a = b) : Ending.returned (.bool a) = .returned (.bool b) := by rw [h]
theorem ret_int {k : IntKind} {a b : Int} (h : a = b) : Ending.returned (.int k a) = .returned (.int k b) := by rw [h]
theorem ret_3 {k k' k'' : IntKind} {a b c a' b' c' : Int} (h : a = a') (h' : b = b') (h'' : c = c') :
    Ending.returned (.tuple #[.int k a, .int k' b, .int k'' c]) = .returned (.tuple #[.int k a', .int k' b', .int k'' c']) := by rw [h, h', h'']
theorem ret_2 {k k' : IntKind} {a b a' b' : Int} (h : a = a') (h' : b = b') :
    Ending.returned (.tuple #[.int k a, .int k' b]) = .returned (.tuple #[.int k a', .int k' b']) := by rw [h, h']

theorem i32_and63 (x : Int) (h₀ : 0 ≤ x) (h₁ : x < 2147483648) : bits .and .i32 x 63 = x % 64 := bits_mask .i32 31 (by decide) wraps_i32 6 (by decide) x h₀ h₁

theorem isPoint_any (r : Int) (w : World) (h1 : -2147483648 ≤ r) (h2 : r ≤ 2147483647) :
    Calls Tryd.prog 43 #[.int .i32 r] w fun e w' => e = .returned (.bool (isPt r)) ∧ w = w' := by
  go_enter Tryd.func43, Tryd.ntmps43
  go_wp2
  all_goals (go_ret; refine ⟨ret_bool ?_, rfl⟩; rw [Bool.eq_iff_iff]; simp [isPt]; omega)

theorem Is_any (r : Int) (w : World) (h1 : -9223372036854775808 ≤ r) (h2 : r ≤ 9223372036854775807) :
    Calls Tryd.prog 34 #[.int .i64 r] w fun e w' => e = .returned (.bool (isPt r)) ∧ w = w' := by
  go_enter Tryd.func34, Tryd.ntmps34
  go_wp2
  all_goals (go_ret; refine ⟨ret_bool ?_, rfl⟩; rw [Bool.eq_iff_iff]; simp [isPt]; omega)

theorem lead_any (c : Int) (w : World) (h1 : 0 ≤ c) (h2 : c ≤ 255) :
    Calls Tryd.prog 42 #[.int .u8 c] w fun e w' => e = .returned (.tuple #[.int .i64 (leadN c), .int .i32 (leadB c), .int .i32 (leadL c)]) ∧ w = w' := by
  have hc := lead_cases c h1 h2
  have e1 := u8_and31 c h1 (by omega)
  have e2 := u8_and15 c h1 (by omega)
  have e3 := u8_and7 c h1 (by omega)
  have H1 := Lib.hid e1
  have H2 := Lib.hid e2
  have H3 := Lib.hid e3
  have HC := Lib.hid hc
  clear e1 e2 e3 hc
  go_enter Tryd.func42, Tryd.ntmps42
  go_wp2
  all_goals (go_ret3; have hc := HC.out; have e1 := H1.out; have e2 := H2.out; have e3 := H3.out; simp at *; omega)
/-- The value '.slice a l.length cap' reads in w as the list l. -/
structure Sl (k : IntKind) (w : World) (a : Option Addr) (cap : Nat) (l : List Int) : Prop where
  le : l.length ≤ cap
  mx : cap ≤ 9223372036854775807
  rd : l = [] ∨ ∃ b off, a = some ⟨b, off, none⟩ ∧ b < w.heap.size ∧ ∀ i, i < l.length → w.cell? ⟨b, off + i, none⟩ = some (.int k (l.getD i 0))
  nil : a = none → cap = 0

/-- All numbers of l are bytes. -/
def Byt (l : List Int) : Prop := ∀ i, i < l.length → 0 ≤ l.getD i 0 ∧ l.getD i 0 ≤ 255

theorem Sl.below {k : IntKind} {w w' : World} {a : Option Addr} {cap : Nat} {l : List Int} (h : Sl k w a cap l) (hb : Below w.heap.size w w') : Sl k w' a cap l := by
  refine ⟨h.le, h.mx, ?_, h.nil⟩
  rcases h.rd with h1 | ⟨b, off, h1, h2, h3⟩
  · exact .inl h1
  · refine .inr ⟨b, off, h1, Nat.lt_of_lt_of_le h2 hb.size, fun i hi => ?_⟩
    rw [hb.cell (p := ⟨b, off + i, none⟩) h2]
    exact h3 i hi

theorem next_arg (a : Option Addr) (n cap : Nat) (p : Int) (w : World) (hn : n ≤ 9223372036854775807) (h : p < 0 ∨ (n : Int) ≤ p) (h1 : -9223372036854775808 ≤ p) (h2 : p ≤ 9223372036854775807) :
    Calls Tryd.prog 33 #[.slice a n cap, .int .i64 p] w fun e w' => e = .returned (.tuple #[.int .i32 0, .int .i64 0, .int .u8 1]) ∧ w = w' := by
  by_cases k : p < 0
  · go_enter Tryd.func33, Tryd.ntmps33
    go_wp2
    go_ret3
    exact ⟨rfl, rfl⟩
  · have k' : (n : Int) ≤ p := by omega
    go_enter Tryd.func33, Tryd.ntmps33
    go_wp2
    go_ret3
    exact ⟨rfl, rfl⟩


/-- What Next answers at a place within l. -/
noncomputable def nextV (l : List Int) (p : Nat) : Value := .tuple #[.int .i32 (decR l p), .int .i64 (decN l p), .int .u8 (if decN l p = 0 then 3 else 0)]

theorem nextV_bad {l : List Int} {p : Nat} (h : ∀ r, ¬ Dec l p r) : nextV l p = .tuple #[.int .i32 0, .int .i64 0, .int .u8 3] := by
  unfold nextV; rw [(dec_none h).1, (dec_none h).2]; rfl
theorem nextV_ok {l : List Int} {p : Nat} {r : Int} {n : Nat} (h : Dec l p r) (hn : n = (encB r).length) : nextV l p = .tuple #[.int .i32 r, .int .i64 n, .int .u8 0] := by
  unfold nextV; rw [h.r, h.n, if_neg (by have := (encB_len r).1; omega), hn]


theorem next_fin_bad {l : List Int} {p k : Nat} {c d : Int} (hb : Byt l) (hc : l.getD p 0 = c) (hk : k + 1 < leadN c) (hd : l.getD (p + 1 + k) 0 = d) (h : d / 64 ≠ 2) :
    nextV l p = .tuple #[.int .i32 0, .int .i64 0, .int .u8 3] := nextV_bad fun r hr => by
  subst hc
  exact h (hd ▸ (dec_lead hr hb).2.2.1 k hk)

theorem next_fin_val {l : List Int} {p : Nat} {c r : Int} (hb : Byt l) (hc : l.getD p 0 = c) (hr : fld l (p + 1) (leadB c) (leadN c - 1) = r) (h : r < leadL c ∨ isPt r = false) :
    nextV l p = .tuple #[.int .i32 0, .int .i64 0, .int .u8 3] := nextV_bad fun s hs => by
  subst hc
  have := dec_lead hs hb
  rw [hr] at this
  obtain ⟨_, _, _, rfl, h5⟩ := this
  rcases h with h | h
  · omega
  · rw [hs.1] at h; cases h

theorem next_fin_ok {l : List Int} {p : Nat} {c r : Int} (hb : Byt l) (hp : p < l.length) (hc : l.getD p 0 = c) (hn : leadN c ≠ 0) (hf : p + leadN c ≤ l.length) (hj : ∀ j, j + 1 < leadN c → l.getD (p + 1 + j) 0 / 64 = 2)
    (hr : fld l (p + 1) (leadB c) (leadN c - 1) = r) (h : leadL c ≤ r) (h' : isPt r = true) :
    nextV l p = .tuple #[.int .i32 r, .int .i64 (leadN c), .int .u8 0] := by
  subst hc
  subst hr
  have := dec_of_lead hp hb hn hf hj h h'
  exact nextV_ok this (dec_lead this hb).1

theorem next_fin_long {l : List Int} {p : Nat} {c : Int} (hb : Byt l) (hc : l.getD p 0 = c) (h : leadN c = 0 ∨ l.length < p + leadN c) : nextV l p = .tuple #[.int .i32 0, .int .i64 0, .int .u8 3] := nextV_bad fun r hr => by
  subst hc
  have := dec_lead hr hb
  have := (encB_len r).1
  omega

theorem next_in (a : Option Addr) (cap : Nat) (l : List Int) (p : Nat) (w : World) (h : Sl .u8 w a cap l) (hb : Byt l) (hp : p < l.length) :
    Calls Tryd.prog 33 #[.slice a l.length cap, .int .i64 p] w fun e w' => e = .returned (nextV l p) ∧ w = w' := by
  have hcap := h.le
  have hmax := h.mx
  rcases h.rd with e | ⟨b, off, rfl, hlt, hc⟩
  · rw [e] at hp; simp at hp
  have hc0 := hc p hp
  have hb0 := hb p hp
  clear h
  generalize hcc : l.getD p 0 = c at *
  have HC := Lib.hid hc
  have HB := Lib.hid hb
  have HCC := Lib.hid hcc
  clear hc hb hcc
  obtain ⟨hb1, hb2⟩ := hb0
  by_cases k0 : leadN c = 0
  · have HF := Lib.hid (next_fin_long HB.out HCC.out (.inl k0))
    go_enter Tryd.func33, Tryd.ntmps33
    go_wp2_with (go_at_call 42; refine (lead_any _ _ (by omega) (by omega)).mono ?_; rintro e w' ⟨rfl, rfl⟩)
    go_ret3
    exact ⟨by rw [HF.out]; rfl, rfl⟩
  by_cases k1 : p + leadN c ≤ l.length
  · have hn4 : leadN c ≤ 4 := by rcases lead_cases c hb1 hb2 with h | h | h | h | h | h <;> omega
    by_cases k2 : 2 ≤ leadN c
    · have k0' : ((leadN c : Int) == 0) = false := by simp; omega
      have k1' : ¬ ((l.length : Int) - p < (leadN c : Int)) := by omega
      have k3 : p + 1 < cap := by omega
      go_enter Tryd.func33, Tryd.ntmps33
      go_wp2_with (go_at_call 42; refine (lead_any _ _ (by omega) (by omega)).mono ?_; rintro e w' ⟨rfl, rfl⟩)
      go_loop [8, 47] (fun r i => ∃ k : Nat, k + 1 ≤ leadN c ∧ i = .int .i64 k ∧ r = .int .i32 (fld l (p + 1) (leadB c) k) ∧ Hid (∀ j, j < k → l.getD (p + 1 + j) 0 / 64 = 2)) (fun _ i => leadN c - (intOf i).toNat)
      case atStart => exact ⟨0, by omega, rfl, rfl, fun j hj => by omega⟩
      case round =>
        obtain ⟨k, hk, rfl, rfl, hgood⟩ := hrel
        have hfb := fld_bd l p HB.out (by omega) k (by rw [HCC.out]; omega)
        rw [HCC.out] at hfb
        generalize hr : fld l (p + 1) (leadB c) k = r at *
        have HR := Lib.hid hr
        clear hr
        obtain ⟨hr1, hr2⟩ := hfb
        by_cases hlt : k + 1 < leadN c
        · have hd := HC.out (p + 1 + k) (by omega)
          have hdb := HB.out (p + 1 + k) (by omega)
          generalize hdd : l.getD (p + 1 + k) 0 = d at *
          have HD := Lib.hid hdd
          clear hdd
          obtain ⟨hd1, hd2⟩ := hdb
          rw [← Nat.add_assoc] at hd
          by_cases h2 : d / 64 = 2
          · have h2' : (d / 64 != 2) = false := by simp [h2]
            have H2 := Lib.hid h2
            clear h2
            go_wp2
            go_round
            case rel =>
              refine ⟨k + 1, by omega, by go_num, ?_, fun j hj => ?_⟩
              · show _ = Value.int .i32 (fld l (p + 1) (leadB c) k * 64 + l.getD (p + 1 + k) 0 % 64)
                rw [HR.out, HD.out]
              · by_cases hjk : j < k
                · exact hgood.out j hjk
                · obtain rfl : j = k := by omega
                  rw [HD.out]; exact H2.out
            case measure => simp [intOf]; omega
          · have h2' : (d / 64 != 2) = true := by simp [h2]
            have HF := Lib.hid (next_fin_bad HB.out HCC.out hlt HD.out h2)
            go_wp2
            go_ret3
            exact ⟨by rw [HF.out]; rfl, rfl⟩
        · have hke : k = leadN c - 1 := by omega
          have HR' : fld l (p + 1) (leadB c) (leadN c - 1) = r := by rw [← hke]; exact HR.out
          by_cases gL : r < leadL c
          · have HF := Lib.hid (next_fin_val HB.out HCC.out HR' (.inl gL))
            clear HR' hke
            go_wp2
            go_ret3
            exact ⟨by rw [HF.out]; rfl, rfl⟩
          · by_cases gp : isPt r = true
            · have HF := Lib.hid (next_fin_ok HB.out hp HCC.out k0 k1 (fun j hj => hgood.out j (by omega)) HR' (by omega) gp)
              clear HR' hke
              go_wp2_with (go_at_call 43; refine (isPoint_any _ _ (by omega) (by omega)).mono ?_; rintro e w' ⟨rfl, rfl⟩)
              go_ret3
              exact ⟨by rw [HF.out]; rfl, rfl⟩
            · have gp' : isPt r = false := by simpa using gp
              have HF := Lib.hid (next_fin_val HB.out HCC.out HR' (.inr gp'))
              clear HR' hke gp
              go_wp2_with (go_at_call 43; refine (isPoint_any _ _ (by omega) (by omega)).mono ?_; rintro e w' ⟨rfl, rfl⟩)
              go_ret3
              exact ⟨by rw [HF.out]; rfl, rfl⟩
    · have k4 : leadN c = 1 := by omega
      have hl := lead_cases c hb1 hb2
      have k5 : leadB c = c ∧ leadL c = 0 ∧ c < 128 := by rw [k4] at hl; omega
      obtain ⟨k5, k6, k7⟩ := k5
      have hpt : isPt c = true := isPt_iff.2 (by omega)
      have HF : Hid (nextV l p = .tuple #[.int .i32 c, .int .i64 1, .int .u8 0]) := by
        have := next_fin_ok HB.out hp HCC.out k0 k1 (fun j hj => by omega) (r := c) (by rw [k4]; exact k5) (by omega) hpt
        rw [k4] at this
        exact this
      have hld : Calls Tryd.prog 42 #[.int .u8 c] w fun e w' => e = .returned (.tuple #[.int .i64 1, .int .i32 c, .int .i32 0]) ∧ w = w' := by
        have := lead_any c w hb1 hb2
        rw [k4, k5, k6] at this
        exact this
      have HL := Lib.hid hld
      clear hld hl k4 k5 k6 k0
      go_enter Tryd.func33, Tryd.ntmps33
      go_wp2_with (go_at_call 42; refine HL.out.mono ?_; rintro e w' ⟨rfl, rfl⟩)
      all_goals
        go_loop [8, 47] (fun r i => r = .int .i32 c ∧ i = .int .i64 0) (fun _ i => 0)
        case atStart => exact ⟨rfl, rfl⟩
        case round =>
          obtain ⟨rfl, rfl⟩ := hrel
          go_wp2_with (go_at_call 43; refine (isPoint_any _ _ (by omega) (by omega)).mono ?_; rintro e w' ⟨rfl, rfl⟩)
          go_ret3
          exact ⟨by rw [HF.out]; rfl, rfl⟩
  · have HF := Lib.hid (next_fin_long HB.out HCC.out (.inr (by omega)))
    have k0' : ((leadN c : Int) == 0) = false := by simp; omega
    have k1' : ((l.length : Int) - p < (leadN c : Int)) := by omega
    have hn4 : leadN c ≤ 4 := by rcases lead_cases c hb1 hb2 with h | h | h | h | h | h <;> omega
    go_enter Tryd.func33, Tryd.ntmps33
    go_wp2_with (go_at_call 42; refine (lead_any _ _ (by omega) (by omega)).mono ?_; rintro e w' ⟨rfl, rfl⟩)
    go_ret3
    exact ⟨by rw [HF.out]; rfl, rfl⟩
end Go.Proofs.YtipfbppkahfnmaaDoor
