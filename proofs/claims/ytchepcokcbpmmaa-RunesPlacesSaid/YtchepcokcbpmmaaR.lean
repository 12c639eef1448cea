import Derived.Test.YtchepcokcbpmmaaQ
namespace Go.Proofs.Ytchepcokcbpmmaa
open Go.RowKit RM
set_option linter.unusedVariables false

theorem wrong_at (a : Option Addr) (n cap : Nat) (l : List Int) (w : World) (h : Sl .u8 w a cap l) (hb : Byt l) (hL : l.length ≤ 5000) (hn : l.length = n) :
    Calls Try.prog 15 #[.slice a n cap] w fun e w' => e = .returned (.int .i64 (wrongOf l)) ∧ Below w.heap.size w w' := by
  subst hn
  exact Wrong_any a cap l w h hb hL

theorem refPlace_at (a : Option Addr) (n cap : Nat) (l : List Int) (w : World) (h : Sl .u8 w a cap l) (hb : Byt l) (hL : l.length ≤ 5000) (hn : l.length = n) :
    Calls Try.prog 20 #[.slice a n cap] w fun e w' => e = .returned (.tuple #[.int .i64 (scan 1 1 (run l).1).1, .int .i64 (scan 1 1 (run l).1).2]) ∧ Below w.heap.size w w' := by
  subst hn
  exact RefPlace_any a cap l w h hb hL

/-- THE LAW RunesPlaces. -/
theorem law_places (a : Option Addr) (cap : Nat) (l : List Int) (p : Int) (w : World) (h : Sl .u8 w a cap l) (hb : Byt l) (h1 : -9223372036854775808 ≤ p) (h2 : p ≤ 9223372036854775807) :
    Calls Try.prog 6 #[.slice a l.length cap, .int .i64 p] w fun e w' => e = .returned (.bool true) ∧ Below w.heap.size w w' := by
  have hcap := h.le
  have hmax := h.mx
  have HS := Lib.hid h
  by_cases hL : l.length ≤ 5000
  · by_cases hin : 0 ≤ p ∧ p ≤ l.length
    · obtain ⟨q, rfl⟩ := Int.eq_ofNat_of_zero_le hin.1
      have hq : q ≤ l.length := by omega
      have hqc : q ≤ cap := by omega
      clear hin
      have hlen : (l.take q).length = q := by simp; omega
      have hwr : ∀ w1, Sl .u8 w1 a cap l → Calls Try.prog 15 #[.slice a q cap] w1 fun e w' => e = .returned (.int .i64 (wrongOf (l.take q))) ∧ Below w1.heap.size w1 w' :=
        fun w1 hs => wrong_at a q cap (l.take q) w1 (sl_take hs q hq) (byt_take hb q) (by omega) hlen
      have hrp : ∀ w1, Sl .u8 w1 a cap l → Calls Try.prog 20 #[.slice a q cap] w1 fun e w' => e = .returned (.tuple #[.int .i64 (scan 1 1 (run (l.take q)).1).1, .int .i64 (scan 1 1 (run (l.take q)).1).2]) ∧ Below w1.heap.size w1 w' :=
        fun w1 hs => refPlace_at a q cap (l.take q) w1 (sl_take hs q hq) (byt_take hb q) (by omega) hlen
      by_cases hw : (run (l.take q)).2 < (l.take q).length
      · have e1 : wrongOf (l.take q) = ((run (l.take q)).2 : Int) := by unfold wrongOf; rw [if_pos hw]
        rw [e1] at hwr
        have hpl : ∀ w1, Sl .u8 w1 a cap l → _ := fun w1 hs => place_no a cap l q w1 hs hb hq hw
        have HW := Lib.hid hwr
        have HP := Lib.hid hpl
        clear hwr hpl hrp e1 hb
        generalize (run (l.take q)).2 = x at *
        cases a with
        | none =>
          obtain rfl := h.nil rfl
          omega
        | some ad =>
          clear h hw hlen
          go_enter Try.func6, Try.ntmps6
          go_wp2_with (go_at_call 8; refine (alive_any _).mono ?_; rintro e w1 ⟨rfl, hb1⟩)
          refine (HP.out _ (HS.out.below hb1)).mono ?_
          rintro e w2 ⟨rfl, rfl⟩
          go_wp2_with fail
          refine (HW.out _ (HS.out.below hb1)).mono ?_
          rintro e w2 ⟨rfl, hb2⟩
          go_wp2_with fail
          go_ret
          exact ⟨rfl, hb1.trans (hb2.mono hb1.size)⟩
      · have e1 : wrongOf (l.take q) = -1 := by unfold wrongOf; rw [if_neg hw]
        rw [e1] at hwr
        have hpl : ∀ w1, Sl .u8 w1 a cap l → _ := fun w1 hs => place_ok a cap l q w1 hs hb hq hL hw
        generalize (scan 1 1 (run (l.take q)).1).1 = x at *
        generalize (scan 1 1 (run (l.take q)).1).2 = y at *
        have HW := Lib.hid hwr
        have HP := Lib.hid hpl
        have HR := Lib.hid hrp
        clear hwr hpl hrp e1 hw hlen hb
        cases a with
        | none =>
          obtain rfl := h.nil rfl
          obtain rfl : q = 0 := by omega
          have hp0 : ∀ w1, Sl .u8 w1 none 0 l → Calls Try.prog 19 #[.slice none l.length 0, .int .i64 0] w1 fun e w' => e = .returned (.tuple #[.int .i64 x, .int .i64 y, .int .u8 0]) ∧ Below w1.heap.size w1 w' := HP.out
          have HP0 := Lib.hid hp0
          have hl0 : l.length = 0 := by omega
          have HL := Lib.hid hl0
          clear h HP hp0 hl0
          have HP := HP0
          go_enter Try.func6, Try.ntmps6
          go_wp2_with (go_at_call 8; refine (alive_any _).mono ?_; rintro e w1 ⟨rfl, hb1⟩)
          refine (HP.out _ (HS.out.below hb1)).mono ?_
          rintro e w2 ⟨rfl, hb2⟩
          have hb12 := hb1.trans (hb2.mono hb1.size)
          go_wp2_with fail
          refine (HW.out _ (HS.out.below hb12)).mono ?_
          rintro e w3 ⟨rfl, hb3⟩
          have hb13 := hb12.trans (hb3.mono hb12.size)
          go_wp2_with fail
          refine (HR.out _ (HS.out.below hb13)).mono ?_
          rintro e w4 ⟨rfl, hb4⟩
          go_wp2_with fail
          go_ret
          exact ⟨rfl, hb13.trans (hb4.mono hb13.size)⟩
        | some ad =>
          clear h
          go_enter Try.func6, Try.ntmps6
          go_wp2_with (go_at_call 8; refine (alive_any _).mono ?_; rintro e w1 ⟨rfl, hb1⟩)
          refine (HP.out _ (HS.out.below hb1)).mono ?_
          rintro e w2 ⟨rfl, hb2⟩
          have hb12 := hb1.trans (hb2.mono hb1.size)
          go_wp2_with fail
          refine (HW.out _ (HS.out.below hb12)).mono ?_
          rintro e w3 ⟨rfl, hb3⟩
          have hb13 := hb12.trans (hb3.mono hb12.size)
          go_wp2_with fail
          refine (HR.out _ (HS.out.below hb13)).mono ?_
          rintro e w4 ⟨rfl, hb4⟩
          go_wp2_with fail
          go_ret
          exact ⟨rfl, hb13.trans (hb4.mono hb13.size)⟩
    · have ho : p < 0 ∨ (l.length : Int) < p := by omega
      by_cases k : p < 0
      · go_enter Try.func6, Try.ntmps6
        go_wp2_with (go_at_call 8; refine (alive_any _).mono ?_; rintro e w1 ⟨rfl, hb1⟩)
        refine (place_arg _ _ _ _ _ (by omega) ho h1 h2).mono ?_
        rintro e w' ⟨rfl, rfl⟩
        go_wp2_with fail
        go_ret
        exact ⟨rfl, hb1⟩
      · have k' : (l.length : Int) < p := by omega
        go_enter Try.func6, Try.ntmps6
        go_wp2_with (go_at_call 8; refine (alive_any _).mono ?_; rintro e w1 ⟨rfl, hb1⟩)
        refine (place_arg _ _ _ _ _ (by omega) ho h1 h2).mono ?_
        rintro e w' ⟨rfl, rfl⟩
        go_wp2_with fail
        go_ret
        exact ⟨rfl, hb1⟩
  · go_enter Try.func6, Try.ntmps6
    go_wp2_with (go_at_call 8; refine (alive_any _).mono ?_; rintro e w1 ⟨rfl, hb1⟩)
    go_ret
    exact ⟨rfl, hb1⟩
end Go.Proofs.Ytchepcokcbpmmaa
