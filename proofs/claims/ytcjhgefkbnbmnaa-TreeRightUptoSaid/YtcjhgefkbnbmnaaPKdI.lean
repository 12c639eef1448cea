/- Right, Row, right; the small makers. -/
import Derived.Test.YtcjhgefkbnbmnaaPKdH
namespace Go.Proofs.Ytcjhgefkbnbmnaa
open Go.RowKit LM
set_option linter.unusedVariables false

theorem below_box (w : World) (o : Obj) : Below w.heap.size w (w.alloc o) := (Below.refl _ _).alloc (Nat.le_refl _) _
theorem below_then {w w1 w2 : World} (h : Below w.heap.size w w1) (k : Below w1.heap.size w1 w2) : Below w.heap.size w w2 := h.trans (k.mono h.size)

set_option maxRecDepth 100000 in
theorem Right_any (h : Hd) (f : Fo) (q : Option Addr) (cap : Nat) (w : World) (hh : h.ok) (hf : SlF w q cap f) (hok : f.ok) (hsz : 1 + f.size ≤ 1099511627776) :
    Calls Try.prog 119 #[.agg #[.int .u8 h.op, .string h.name, .int .i64 h.n, .slice q f.len cap]] w fun e w' => e = .returned (.bool (rightB h f 1)) ∧ Below w.heap.size w w' := by
  have HR : Hid (rightB h f 1 = (decide (sortO h.op = 1) && soundFrom [] (flatL [(h, f)]))) := Lib.hid (by rw [rightB_eq h f 1 (.inl rfl), flatL_one])
  have HS := Lib.hid fun w => ksort_any h.op w hh.op0 hh.op1
  have HC := Lib.hid fun o => sound_any h f q cap (w.alloc o) hh (hf.below (below_box w o)) hok hsz
  have hle := sortO_le h.op
  clear hh hf hok hsz
  generalize rightB h f 1 = r at *
  generalize soundFrom [] (flatL [(h, f)]) = sd at *
  generalize sortO h.op = m at *
  generalize h.op = o1 at *
  generalize h.name = o2 at *
  generalize h.n = o3 at *
  generalize f.len = o4 at *
  by_cases hm : m = 1
  · subst hm
    go_enter Try.func119, Try.ntmps119
    go_wp2_with (first | (go_at_call 70; refine (HS.out _).mono ?_; rintro e w' ⟨rfl, rfl⟩) | (go_at_call 86; refine (HC.out _).mono ?_; rintro e w2 ⟨rfl, hb2⟩; have HB2 := Lib.hid hb2; clear hb2))
    go_ret
    exact ⟨ret_bool (by rw [HR.out]; simp), below_then (below_box _ _) HB2.out⟩
  · have hm' : ((m : Int) == 1) = false := by rw [beq_eq_false_iff_ne]; omega
    go_enter Try.func119, Try.ntmps119
    go_wp2_with (go_at_call 70; refine (HS.out _).mono ?_; rintro e w' ⟨rfl, rfl⟩)
    go_ret
    exact ⟨ret_bool (by rw [HR.out, decide_eq_false hm]; simp), below_box _ _⟩

set_option maxRecDepth 100000 in
theorem right_any (h : Hd) (f : Fo) (q : Option Addr) (cap : Nat) (w : World) (hh : h.ok) (hf : SlF w q cap f) (hok : f.ok) (hsz : 1 + f.size ≤ 1099511627776) :
    Calls Try.prog 54 #[.agg #[.int .u8 h.op, .string h.name, .int .i64 h.n, .slice q f.len cap]] w fun e w' => e = .returned (.bool (rightB h f 1 || rightB h f 2)) ∧ Below w.heap.size w w' := by
  have HR : Hid ((rightB h f 1 || rightB h f 2) = (decide (sortO h.op ≠ 0) && soundFrom [] (flatL [(h, f)]))) := Lib.hid (by
    rw [rightB_eq h f 1 (.inl rfl), rightB_eq h f 2 (.inr rfl), ← flatL_one, ← Bool.and_or_distrib_right]
    congr 1
    have := sortO_le h.op
    rw [Bool.eq_iff_iff]; simp; omega)
  have HS := Lib.hid fun w => ksort_any h.op w hh.op0 hh.op1
  have HC := Lib.hid fun o => sound_any h f q cap (w.alloc o) hh (hf.below (below_box w o)) hok hsz
  have hle := sortO_le h.op
  clear hh hf hok hsz
  generalize (rightB h f 1 || rightB h f 2) = r at *
  generalize soundFrom [] (flatL [(h, f)]) = sd at *
  generalize sortO h.op = m at *
  generalize h.op = o1 at *
  generalize h.name = o2 at *
  generalize h.n = o3 at *
  generalize f.len = o4 at *
  by_cases hm : m = 0
  · subst hm
    go_enter Try.func54, Try.ntmps54
    go_wp2_with (go_at_call 70; refine (HS.out _).mono ?_; rintro e w' ⟨rfl, rfl⟩)
    go_ret
    exact ⟨ret_bool (by rw [HR.out]; simp), below_box _ _⟩
  · have hm' : ((m : Int) == 0) = false := by rw [beq_eq_false_iff_ne]; omega
    have hm2 : (!((m : Int) == 0)) = true := by simp; omega
    have hm3 : ((m : Int) != 0) = true := by simp; omega
    go_enter Try.func54, Try.ntmps54
    go_wp2_with (first | (go_at_call 70; refine (HS.out _).mono ?_; rintro e w' ⟨rfl, rfl⟩) | (go_at_call 86; refine (HC.out _).mono ?_; rintro e w2 ⟨rfl, hb2⟩; have HB2 := Lib.hid hb2; clear hb2))
    go_ret
    exact ⟨ret_bool (by rw [HR.out]; simp [hm]), below_then (below_box _ _) HB2.out⟩

end Go.Proofs.Ytcjhgefkbnbmnaa
