import Derived.Test.YtmjijmkdeblefaaRnG
import Derived.Test.YtmjijmkdeblefaaLxM
import Derived.WalkLawsBesides
namespace Go.Proofs.Ytmjijmkdeblefaa
open Go.RowKit RM LM
set_option linter.unusedVariables false

set_option maxRecDepth 100000 in
theorem sortOf_any (c : Int) (w : World) (h1 : 0 ≤ c) (h2 : c ≤ 255) :
    Calls Try.prog 148 #[.int .u8 c] w fun e w' => e = .returned (.int .u8 (sortV c)) ∧ w = w' := by
  go_enter Try.func148, Try.ntmps148
  go_wp2
  all_goals (go_ret; refine ⟨ret_int ?_, rfl⟩; unfold sortV; simp at *)
  all_goals omega

theorem byte_bd (c : UInt8) : 0 ≤ (c.toNat : Int) ∧ (c.toNat : Int) ≤ 255 := by
  have := c.toNat_lt; omega

theorem sortOf_byte (c : UInt8) (w : World) :
    Calls Try.prog 148 #[.int .u8 (c.toNat : Int)] w fun e w' => e = .returned (.int .u8 (su c)) ∧ w = w' :=
  sortOf_any _ w (byte_bd c).1 (byte_bd c).2

set_option maxRecDepth 100000 in
theorem kind_any (c : Int) (w : World) (h1 : 0 ≤ c) (h2 : c ≤ 255) :
    Calls Try.prog 127 #[.int .u8 c] w fun e w' => e = .returned (.int .i64 (kindV c)) ∧ w = w' := by
  go_enter Try.func127, Try.ntmps127
  go_wp2
  all_goals (go_ret; refine ⟨ret_int ?_, rfl⟩; unfold kindV; try simp at *)
  all_goals ((repeat' split) <;> omega)
def ku (c : UInt8) : Int := kindV (c.toNat : Int)
theorem kind_byte (c : UInt8) (w : World) :
    Calls Try.prog 127 #[.int .u8 (c.toNat : Int)] w fun e w' => e = .returned (.int .i64 (ku c)) ∧ w = w' :=
  kind_any _ w (byte_bd c).1 (byte_bd c).2

set_option maxRecDepth 100000 in
theorem isKeyword_any (s : ByteArray) (w : World) :
    Calls Try.prog 132 #[.string s] w fun e w' => e = .returned (.bool (kw s.toList)) ∧ w = w' := by
  go_enter Try.func132, Try.ntmps132
  go_wp2
  all_goals (go_ret; refine ⟨ret_bool ?_, rfl⟩; simp_all [kw, kwL])
end Go.Proofs.Ytmjijmkdeblefaa
