import Derived.Test.YtchepcokcbpmmaaD
namespace Go.Proofs.Ytchepcokcbpmmaa
open Go.RowKit RM
set_option linter.unusedVariables false

theorem alive_dec : Dec [226, 130, 172] 0 8364 := ⟨by decide, [], by decide⟩

theorem alive_next (w : World) : Calls Try.prog 9 #[.slice (some ⟨w.heap.size, 0, none⟩) 3 3, .int .i64 0] (w.alloc (.cells #[.int .u8 226, .int .u8 130, .int .u8 172] 5)) fun e w' =>
    e = .returned (.tuple #[.int .i32 8364, .int .i64 3, .int .u8 0]) ∧ (w.alloc (.cells #[.int .u8 226, .int .u8 130, .int .u8 172] 5)) = w' := by
  have hb : Byt [226, 130, 172] := by
    intro i hi
    have : i = 0 ∨ i = 1 ∨ i = 2 := by simp at hi; omega
    rcases this with rfl | rfl | rfl <;> decide
  have h := next_in (some ⟨w.heap.size, 0, none⟩) 3 [226, 130, 172] 0 _ (sl_alloc (k := .u8) (l := [226, 130, 172]) w 5 (by decide)) hb (by decide)
  have e : nextV [226, 130, 172] 0 = .tuple #[.int .i32 8364, .int .i64 3, .int .u8 0] := nextV_ok (n := 3) alive_dec (by decide)
  rw [e] at h
  exact h

theorem alive_any (w : World) : Calls Try.prog 8 #[] w fun e w' => e = .returned (.bool true) ∧ Below w.heap.size w w' := by
  go_enter Try.func8, Try.ntmps8
  go_wp2_with (go_at_call 9; refine (alive_next _).mono ?_; rintro e w' ⟨rfl, rfl⟩)
  go_ret
  exact ⟨rfl, (Below.refl _ _).alloc (Nat.le_refl _) _⟩

theorem next_ok (a : Option Addr) (cap : Nat) (l : List Int) (p : Nat) (r : Int) (n : Nat) (w : World) (h : Sl .u8 w a cap l) (hb : Byt l) (hd : Dec l p r) (hn : n = (encB r).length) :
    Calls Try.prog 9 #[.slice a l.length cap, .int .i64 p] w fun e w' => e = .returned (.tuple #[.int .i32 r, .int .i64 n, .int .u8 0]) ∧ w = w' := by
  have h1 := next_in a cap l p w h hb (by have := hd.fits; have := (encB_len r).1; omega)
  rw [nextV_ok hd hn] at h1
  exact h1

theorem next_no (a : Option Addr) (cap : Nat) (l : List Int) (p : Nat) (w : World) (h : Sl .u8 w a cap l) (hb : Byt l) (hp : p < l.length) (hd : ∀ r, ¬ Dec l p r) :
    Calls Try.prog 9 #[.slice a l.length cap, .int .i64 p] w fun e w' => e = .returned (.tuple #[.int .i32 0, .int .i64 0, .int .u8 3]) ∧ w = w' := by
  have h1 := next_in a cap l p w h hb hp
  rw [nextV_bad hd] at h1
  exact h1

theorem at_ok (a : Option Addr) (cap : Nat) (l : List Int) (p : Nat) (r : Int) (n : Nat) (w : World) (h : Sl .u8 w a cap l) (hb : Byt l) (hL : l.length ≤ 5000) (hd : Dec l p r) (hn : n = (encB r).length) :
    Calls Try.prog 10 #[.slice a l.length cap, .int .i64 p] w fun e w' => e = .returned (.tuple #[.int .i64 r, .int .i64 n]) ∧ Below w.heap.size w w' := by
  have h1 := At_any a cap l p w h hb hL (by have := hd.fits; have := (encB_len r).1; omega)
  have e : atV l p = .tuple #[.int .i64 r, .int .i64 n] := by unfold atV; rw [hd.r, hd.n, hn]
  rw [e] at h1
  exact h1

theorem at_no (a : Option Addr) (cap : Nat) (l : List Int) (p : Nat) (w : World) (h : Sl .u8 w a cap l) (hb : Byt l) (hL : l.length ≤ 5000) (hp : p < l.length) (hd : ∀ r, ¬ Dec l p r) :
    Calls Try.prog 10 #[.slice a l.length cap, .int .i64 p] w fun e w' => e = .returned (.tuple #[.int .i64 0, .int .i64 0]) ∧ Below w.heap.size w w' := by
  have h1 := At_any a cap l p w h hb hL hp
  have e : atV l p = .tuple #[.int .i64 0, .int .i64 0] := by unfold atV; rw [(dec_none hd).1, (dec_none hd).2]; rfl
  rw [e] at h1
  exact h1

/-- THE LAW RunesNext. -/
theorem law_next (a : Option Addr) (cap : Nat) (l : List Int) (p : Int) (w : World) (h : Sl .u8 w a cap l) (hb : Byt l) (h1 : -9223372036854775808 ≤ p) (h2 : p ≤ 9223372036854775807) :
    Calls Try.prog 3 #[.slice a l.length cap, .int .i64 p] w fun e w' => e = .returned (.bool true) ∧ Below w.heap.size w w' := by
  have hcap := h.le
  have hmax := h.mx
  by_cases hL : l.length ≤ 5000
  · by_cases hin : 0 ≤ p ∧ p < l.length
    · obtain ⟨q, rfl⟩ := Int.eq_ofNat_of_zero_le hin.1
      have hq : q < l.length := by omega
      clear hin
      have HS := Lib.hid h
      have HB := Lib.hid hb
      clear h hb
      by_cases hd : ∃ r, Dec l q r
      · obtain ⟨r, hd⟩ := hd
        have hpt := isPt_iff.1 hd.1
        have hr1 : 0 ≤ r := by omega
        have hr2 : r ≤ 1114111 := by omega
        have hlen := encB_len r
        have HD := Lib.hid hd
        clear hd hpt
        generalize hn : (encB r).length = n at *
        have HN := Lib.hid hn.symm
        clear hn
        have hn0 : ((n : Int) == 0) = false := by simp; omega
        go_enter Try.func3, Try.ntmps3
        go_wp2_with (go_at_call 8; refine (alive_any _).mono ?_; rintro e w1 ⟨rfl, hb1⟩)
        refine (next_ok _ _ _ _ _ _ _ (HS.out.below hb1) HB.out HD.out HN.out).mono ?_
        rintro e w' ⟨rfl, rfl⟩
        go_wp2_with fail
        refine (at_ok _ _ _ _ _ _ _ (HS.out.below hb1) HB.out hL HD.out HN.out).mono ?_
        rintro e w2 ⟨rfl, hb2⟩
        go_wp2_with fail
        go_ret
        exact ⟨rfl, hb1.trans (hb2.mono hb1.size)⟩
      · have hd' : ∀ r, ¬ Dec l q r := fun r hr => hd ⟨r, hr⟩
        have HD := Lib.hid hd'
        clear hd hd'
        go_enter Try.func3, Try.ntmps3
        go_wp2_with (go_at_call 8; refine (alive_any _).mono ?_; rintro e w1 ⟨rfl, hb1⟩)
        refine (next_no _ _ _ _ _ (HS.out.below hb1) HB.out hq HD.out).mono ?_
        rintro e w' ⟨rfl, rfl⟩
        go_wp2_with fail
        refine (at_no _ _ _ _ _ (HS.out.below hb1) HB.out hL hq HD.out).mono ?_
        rintro e w2 ⟨rfl, hb2⟩
        go_wp2_with fail
        go_ret
        exact ⟨rfl, hb1.trans (hb2.mono hb1.size)⟩
    · have ho : p < 0 ∨ (l.length : Int) ≤ p := by omega
      by_cases k : p < 0
      · go_enter Try.func3, Try.ntmps3
        go_wp2_with (go_at_call 8; refine (alive_any _).mono ?_; rintro e w1 ⟨rfl, hb1⟩)
        refine (next_arg _ _ _ _ _ (by omega) ho h1 h2).mono ?_
        rintro e w' ⟨rfl, rfl⟩
        go_wp2_with fail
        go_ret
        exact ⟨rfl, hb1⟩
      · have k' : (l.length : Int) ≤ p := by omega
        go_enter Try.func3, Try.ntmps3
        go_wp2_with (go_at_call 8; refine (alive_any _).mono ?_; rintro e w1 ⟨rfl, hb1⟩)
        refine (next_arg _ _ _ _ _ (by omega) ho h1 h2).mono ?_
        rintro e w' ⟨rfl, rfl⟩
        go_wp2_with fail
        go_ret
        exact ⟨rfl, hb1⟩
  · go_enter Try.func3, Try.ntmps3
    go_wp2_with (go_at_call 8; refine (alive_any _).mono ?_; rintro e w1 ⟨rfl, hb1⟩)
    go_ret
    exact ⟨rfl, hb1⟩
end Go.Proofs.Ytchepcokcbpmmaa
