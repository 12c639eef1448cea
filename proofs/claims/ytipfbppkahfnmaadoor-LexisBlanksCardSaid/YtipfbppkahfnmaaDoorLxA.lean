import Derived.Test.YtipfbppkahfnmaaDoorRnG
import Derived.Test.YtipfbppkahfnmaaDoorLxM
import Derived.WalkLawsBesides
namespace Go.Proofs.YtipfbppkahfnmaaDoor
open Go.RowKit RM LM
set_option linter.unusedVariables false

set_option maxRecDepth 100000 in
theorem sortOf_any (c : Int) (w : World) (h1 : 0 ≤ c) (h2 : c ≤ 255) :
    Calls Tryd.prog 28 #[.int .u8 c] w fun e w' => e = .returned (.int .u8 (sortV c)) ∧ w = w' := by
  go_enter Tryd.func28, Tryd.ntmps28
  go_wp2
  all_goals (go_ret; refine ⟨ret_int ?_, rfl⟩; unfold sortV; simp at *)
  all_goals omega

theorem byte_bd (c : UInt8) : 0 ≤ (c.toNat : Int) ∧ (c.toNat : Int) ≤ 255 := by
  have := c.toNat_lt; omega

theorem sortOf_byte (c : UInt8) (w : World) :
    Calls Tryd.prog 28 #[.int .u8 (c.toNat : Int)] w fun e w' => e = .returned (.int .u8 (su c)) ∧ w = w' :=
  sortOf_any _ w (byte_bd c).1 (byte_bd c).2

set_option maxRecDepth 100000 in
theorem kind_any (c : Int) (w : World) (h1 : 0 ≤ c) (h2 : c ≤ 255) :
    Calls Tryd.prog 21 #[.int .u8 c] w fun e w' => e = .returned (.int .i64 (kindV c)) ∧ w = w' := by
  go_enter Tryd.func21, Tryd.ntmps21
  go_wp2
  all_goals (go_ret; refine ⟨ret_int ?_, rfl⟩; unfold kindV; try simp at *)
  all_goals ((repeat' split) <;> omega)
def ku (c : UInt8) : Int := kindV (c.toNat : Int)
theorem kind_byte (c : UInt8) (w : World) :
    Calls Tryd.prog 21 #[.int .u8 (c.toNat : Int)] w fun e w' => e = .returned (.int .i64 (ku c)) ∧ w = w' :=
  kind_any _ w (byte_bd c).1 (byte_bd c).2

theorem inRun_any (c : Int) (w : World) (h1 : 0 ≤ c) (h2 : c ≤ 255) :
    Calls Tryd.prog 40 #[.int .u8 c] w fun e w' => e = .returned (.bool (inRun c)) ∧ w = w' := by
  have hb := sort_bd c
  have HC := Lib.hid (sortOf_any c w h1 h2)
  have hi : inRun c = decide (4 ≤ sortV c) := rfl
  generalize sortV c = s at *
  have HI := Lib.hid hi
  clear hi
  obtain ⟨hb1, hb2⟩ := hb
  go_enter Tryd.func40, Tryd.ntmps40
  go_wp2_with (go_at_call 28; refine HC.out.mono ?_; rintro e w' ⟨rfl, rfl⟩)
  all_goals (go_ret; refine ⟨ret_bool ?_, rfl⟩; rw [HI.out]; simp at *)
  all_goals omega

set_option maxRecDepth 100000 in
theorem isKeyword_any (s : ByteArray) (w : World) :
    Calls Tryd.prog 24 #[.string s] w fun e w' => e = .returned (.bool (kw s.toList)) ∧ w = w' := by
  go_enter Tryd.func24, Tryd.ntmps24
  go_wp2
  all_goals (go_ret; refine ⟨ret_bool ?_, rfl⟩; simp_all [kw, kwL])
end Go.Proofs.YtipfbppkahfnmaaDoor
