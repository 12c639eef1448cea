import Derived.Test.YtipfbppkahfnmaaDoorLxK
import Derived.Test.YtipfbppkahfnmaaDoorLxL
namespace Go.Proofs.YtipfbppkahfnmaaDoor
open Go.RowKit RM LM
set_option linter.unusedVariables false

theorem Tokens_at (a : Option Addr) (cap : Nat) (l : List Int) (r : List Tok × Int × Int) (w : World) (h : Sl .u8 w a cap l) (hb : Byt l) (hv : EV w) (hr : toksV l = r) :
    Calls Tryd.prog 8 #[.slice a l.length cap] w fun e w' => ∃ a cap, e = .returned (.tuple #[.slice a r.1.length cap, .int .i64 r.2.1, .int .u8 r.2.2]) ∧ Toks w' a cap r.1 ∧ Below w.heap.size w w' := by
  subst hr
  exact Tokens_any a cap l w h hb hv
theorem refTokens_at (a : Option Addr) (cap : Nat) (l : List Int) (r : List Tok × Int × Int) (w : World) (h : Sl .u8 w a cap l) (hb : Byt l) (hL : l.length ≤ 5000) (hr : toksV l = r) :
    Calls Tryd.prog 9 #[.slice a l.length cap] w fun e w' => ∃ a cap, e = .returned (.tuple #[.slice a r.1.length cap, .int .i64 r.2.1, .int .i64 r.2.2]) ∧ Toks w' a cap r.1 ∧ Below w.heap.size w w' := by
  subst hr
  exact refTokens_any a cap l w h hb hL

/-- THE LAW LexisTokens. -/
theorem law_tokens (a : Option Addr) (cap : Nat) (l : List Int) (w : World) (h : Sl .u8 w a cap l) (hb : Byt l) (hv : EV w) :
    Calls Tryd.prog 3 #[.slice a l.length cap] w fun e w' => e = .returned (.bool true) ∧ Below w.heap.size w w' := by
  have hcap := h.le
  have hmax := h.mx
  have HS := Lib.hid h
  have HB := Lib.hid hb
  have HV := Lib.hid hv
  clear h hb hv
  by_cases hL : l.length ≤ 5000
  · obtain ⟨r, hr⟩ : ∃ r, toksV l = r := ⟨_, rfl⟩
    have HR := Lib.hid hr
    have hcd := toks_codes l
    rw [hr] at hcd
    clear hr
    obtain ⟨ts, x, c⟩ := r
    have hc0 : 0 ≤ c := by simp only [] at hcd; omega
    have hc7 : c ≤ 7 := by simp only [] at hcd; omega
    clear hcd
    go_enter Tryd.func3, Tryd.ntmps3
    go_wp2_with (go_at_call 7; refine (alive_any _ HV.out).mono ?_; rintro e w1 ⟨rfl, hb1⟩)
    refine (Tokens_at _ _ _ _ _ (HS.out.below hb1) HB.out (HV.out.below hb1) HR.out).mono ?_
    rintro e w2 ⟨a2, c2, rfl, ht2, hb2⟩
    have HB2 := Lib.hid (hb1.trans (hb2.mono hb1.size))
    have HT2 := Lib.hid ht2
    clear ht2 hb1 hb2
    go_wp2_with fail
    refine (refTokens_at _ _ _ _ _ (HS.out.below HB2.out) HB.out hL HR.out).mono ?_
    rintro e w3 ⟨a3, c3, rfl, ht3, hb3⟩
    have HB3 := Lib.hid (HB2.out.trans (hb3.mono HB2.out.size))
    have HT3 := Lib.hid ht3
    have HT23 := Lib.hid (HT2.out.below hb3)
    clear ht3 hb3
    go_wp2_with (go_at_call 10; refine (tokSame_yes _ _ _ ts _ _ _ _ HT23.out HT3.out rfl rfl).mono ?_; rintro e w4 ⟨rfl, n4, rfl⟩)
    go_ret
    exact ⟨rfl, below_dN HB3.out _⟩
  · go_enter Tryd.func3, Tryd.ntmps3
    go_wp2_with (go_at_call 7; refine (alive_any _ HV.out).mono ?_; rintro e w1 ⟨rfl, hb1⟩)
    go_ret
    exact ⟨rfl, hb1⟩
end Go.Proofs.YtipfbppkahfnmaaDoor
