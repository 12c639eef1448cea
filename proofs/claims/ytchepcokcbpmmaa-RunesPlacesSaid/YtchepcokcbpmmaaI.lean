import Derived.Test.YtchepcokcbpmmaaH
namespace Go.Proofs.Ytchepcokcbpmmaa
open Go.RowKit RM
set_option linter.unusedVariables false

/-- THE LAW RunesCheck. -/
theorem law_check (a : Option Addr) (cap : Nat) (l : List Int) (w : World) (h : Sl .u8 w a cap l) (hb : Byt l) :
    Calls Try.prog 5 #[.slice a l.length cap] w fun e w' => e = .returned (.bool true) ∧ Below w.heap.size w w' := by
  have hcap := h.le
  have hmax := h.mx
  have HS := Lib.hid h
  have HB := Lib.hid hb
  by_cases hL : l.length ≤ 5000
  · by_cases hp : (run l).2 < l.length
    · have h1 : wrongOf l = ((run l).2 : Int) := by unfold wrongOf; rw [if_pos hp]
      have h2 : countV l = .tuple #[.int .i64 0, .int .u8 3] := by unfold countV; rw [if_pos hp]
      have HC := Lib.hid (fun w hs => Check_any a cap l w hs hb)
      have HW := Lib.hid (fun w hs => Wrong_any a cap l w hs hb hL)
      have HN := Lib.hid (fun w hs => Count_any a cap l w hs hb)
      rw [h1] at HC HW
      rw [h2] at HN
      generalize (run l).2 = p at *
      clear h1 h2 h hb
      go_enter Try.func5, Try.ntmps5
      go_wp2_with (go_at_call 8; refine (alive_any _).mono ?_; rintro e w1 ⟨rfl, hb1⟩)
      have hs1 := Lib.hid (HS.out.below hb1)
      refine (HW.out _ hs1.out).mono ?_
      rintro e w2 ⟨rfl, hb2⟩
      have hs2 := Lib.hid (hs1.out.below hb2)
      go_wp2_with fail
      refine (HN.out _ hs2.out).mono ?_
      rintro e w3 ⟨rfl, rfl⟩
      go_wp2_with fail
      refine (HC.out _ hs2.out).mono ?_
      rintro e w3 ⟨rfl, rfl⟩
      go_wp2_with fail
      go_ret
      exact ⟨rfl, hb1.trans (hb2.mono hb1.size)⟩
    · have h1 : wrongOf l = -1 := by unfold wrongOf; rw [if_neg hp]
      have h2 : countV l = .tuple #[.int .i64 (run l).1.length, .int .u8 0] := by unfold countV; rw [if_neg hp]
      have HC := Lib.hid (fun w hs => Check_any a cap l w hs hb)
      have HW := Lib.hid (fun w hs => Wrong_any a cap l w hs hb hL)
      have HN := Lib.hid (fun w hs => Count_any a cap l w hs hb)
      have HP := Lib.hid (fun w hs => Points_any a cap l w hs hb hL)
      rw [h1] at HC HW
      rw [h2] at HN
      have hle := (run_le l).2
      generalize (run l).1 = ps at *
      clear h1 h2 h hb hp
      go_enter Try.func5, Try.ntmps5
      go_wp2_with (go_at_call 8; refine (alive_any _).mono ?_; rintro e w1 ⟨rfl, hb1⟩)
      have hs1 := Lib.hid (HS.out.below hb1)
      refine (HW.out _ hs1.out).mono ?_
      rintro e w2 ⟨rfl, hb2⟩
      have hs2 := Lib.hid (hs1.out.below hb2)
      go_wp2_with fail
      refine (HN.out _ hs2.out).mono ?_
      rintro e w3 ⟨rfl, rfl⟩
      go_wp2_with fail
      refine (HC.out _ hs2.out).mono ?_
      rintro e w3 ⟨rfl, rfl⟩
      go_wp2_with fail
      refine (HP.out _ hs2.out).mono ?_
      rintro e w4 ⟨a4, c4, rfl, _, hb4⟩
      go_wp2_with fail
      go_ret
      exact ⟨rfl, (hb1.trans (hb2.mono hb1.size)).trans (hb4.mono (Nat.le_trans hb1.size hb2.size))⟩
  · go_enter Try.func5, Try.ntmps5
    go_wp2_with (go_at_call 8; refine (alive_any _).mono ?_; rintro e w1 ⟨rfl, hb1⟩)
    go_ret
    exact ⟨rfl, hb1⟩
end Go.Proofs.Ytchepcokcbpmmaa
