import Derived.Test.YtipfbppkahfnmaaDoorRnE
namespace Go.Proofs.YtipfbppkahfnmaaDoor
open Go.RowKit RM
set_option linter.unusedVariables false

theorem walk_any (a : Option Addr) (cap : Nat) (l : List Int) (w : World) (h : Sl .u8 w a cap l) (hb : Byt l) :
    Calls Tryd.prog 45 #[.slice a l.length cap] w fun e w' => e = .returned (.tuple #[.int .i64 (run l).1.length, .int .i64 (run l).2]) ∧ w = w' := by
  have hcap := h.le
  have hmax := h.mx
  have HS := Lib.hid h
  have HB := Lib.hid hb
  clear h hb
  go_enter Tryd.func45, Tryd.ntmps45
  go_wp2_with fail
  go_loop [2, 3, 4, 5, 6] (fun c e _ _ _ => ∃ (p n : Nat) (acc : List Int), Hid (RM.Met l p acc) ∧ Hid (acc.length = n) ∧ p ≤ l.length ∧ n ≤ p ∧ c = .int .i64 n ∧ e = .int .i64 p) (fun _ e _ _ _ => l.length - (intOf e).toNat)
  case atStart => exact ⟨0, 0, [], RM.Met.start l, rfl, by omega, by omega, rfl, rfl⟩
  case round =>
    obtain ⟨p, n, acc, hm, hn, hp, hnp, rfl, rfl⟩ := hrel
    by_cases hlt : p < l.length
    · by_cases hd : ∃ r, Dec l p r
      · obtain ⟨r, hd⟩ := hd
        have hlen := encB_len r
        have hfit := hd.fits
        have hm' : RM.Met l (p + (encB r).length) (acc ++ [r]) := by
          have := hm.out.step (by rw [hd.n]; omega)
          rw [hd.n, hd.r] at this
          exact this
        have HD := Lib.hid hd
        clear hd
        generalize hk : (encB r).length = k at *
        have HK := Lib.hid hk.symm
        have HM := Lib.hid hm'
        clear hk hm'
        go_wp2_with fail
        refine (next_ok _ _ _ _ _ _ _ HS.out HB.out HD.out HK.out).mono ?_
        rintro e w' ⟨rfl, rfl⟩
        go_wp2_with fail
        go_round
        case rel =>
          refine ⟨p + k, n + 1, _, HM.out, ?_, by omega, by omega, by go_num, by go_num⟩
          show (acc ++ [r]).length = n + 1
          simp [hn.out]
        case measure => simp [intOf]; omega
      · have hd' : ∀ r, ¬ Dec l p r := fun r hr => hd ⟨r, hr⟩
        have hr := hm.out.stop (dec_none hd').2
        have HR := Lib.hid hr
        have HD := Lib.hid hd'
        clear hr hd hd'
        go_wp2_with fail
        refine (next_no _ _ _ _ _ HS.out HB.out hlt HD.out).mono ?_
        rintro e w' ⟨rfl, rfl⟩
        go_wp2_with fail
        go_ret2
        have hr := HR.out
        have hn' := hn.out
        rw [hr]
        exact ⟨by rw [← hn']; rfl, rfl⟩
    · have hr := hm.out.atEnd (by omega)
      have HR := Lib.hid hr
      clear hr
      go_wp2_with fail
      go_ret2
      obtain ⟨hr, _⟩ := HR.out
      have hn' := hn.out
      rw [hr]
      exact ⟨by rw [← hn']; rfl, rfl⟩

/-- The first wrong place, -1: none. -/
noncomputable def wrongOf (l : List Int) : Int := if (run l).2 < l.length then (run l).2 else -1

theorem Check_any (a : Option Addr) (cap : Nat) (l : List Int) (w : World) (h : Sl .u8 w a cap l) (hb : Byt l) :
    Calls Tryd.prog 39 #[.slice a l.length cap] w fun e w' => e = .returned (.int .i64 (wrongOf l)) ∧ w = w' := by
  have hcap := h.le
  have hmax := h.mx
  have HW := Lib.hid (walk_any a cap l w h hb)
  have hle := (run_le l)
  have hwr : wrongOf l = if (run l).2 < l.length then ((run l).2 : Int) else -1 := rfl
  generalize (run l).1.length = n at *
  generalize (run l).2 = p at *
  have HWR := Lib.hid hwr
  clear hwr
  obtain ⟨hle1, hle2⟩ := hle
  by_cases hp : p < l.length
  · go_enter Tryd.func39, Tryd.ntmps39
    go_wp2_with (go_at_call 45; refine HW.out.mono ?_; rintro e w' ⟨rfl, rfl⟩)
    go_ret
    exact ⟨by rw [HWR.out, if_pos hp]; rfl, rfl⟩
  · go_enter Tryd.func39, Tryd.ntmps39
    go_wp2_with (go_at_call 45; refine HW.out.mono ?_; rintro e w' ⟨rfl, rfl⟩)
    go_ret
    exact ⟨by rw [HWR.out, if_neg hp]; rfl, rfl⟩

end Go.Proofs.YtipfbppkahfnmaaDoor
