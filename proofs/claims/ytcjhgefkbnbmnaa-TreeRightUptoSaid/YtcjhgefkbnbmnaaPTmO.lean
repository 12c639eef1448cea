/- fits, of a node: what its Op asks for. -/
import Derived.BigQuiet
import Derived.Test.YtcjhgefkbnbmnaaPTmN
import Derived.Test.YtcjhgefkbnbmnaaPA
namespace Go.Proofs.Ytcjhgefkbnbmnaa
open Go.RowKit LM
set_option linter.unusedVariables false

theorem str_eq2 (s : ByteArray) (l : List UInt8) : (s.toList == l) = decide (s = ⟨l.toArray⟩) := by
  have := str_eq s l.toArray
  rw [ByteArray.toList_eq ⟨l.toArray⟩] at this
  simpa using this
set_option maxRecDepth 100000 in
theorem isSign_any (s : ByteArray) (w : World) :
    Calls Try.prog 117 #[.string s] w fun e w' => e = .returned (.bool (signB s)) ∧ w = w' := by
  have e1 := str_eq2 s [43]
  have e2 := str_eq2 s [45]
  have e3 := str_eq2 s [42]
  have e4 := str_eq2 s [47]
  have e5 := str_eq2 s [37]
  have e6 := str_eq2 s [60]
  have e7 := str_eq2 s [61, 61]
  have HR : Hid (signB s = (decide (s = ⟨#[43]⟩) || decide (s = ⟨#[45]⟩) || decide (s = ⟨#[42]⟩) || decide (s = ⟨#[47]⟩) || decide (s = ⟨#[37]⟩) || decide (s = ⟨#[60]⟩) || decide (s = ⟨#[61, 61]⟩))) := Lib.hid rfl
  generalize signB s = r at *
  generalize decide (s = ⟨#[43]⟩) = b1 at *
  generalize decide (s = ⟨#[45]⟩) = b2 at *
  generalize decide (s = ⟨#[42]⟩) = b3 at *
  generalize decide (s = ⟨#[47]⟩) = b4 at *
  generalize decide (s = ⟨#[37]⟩) = b5 at *
  generalize decide (s = ⟨#[60]⟩) = b6 at *
  generalize decide (s = ⟨#[61, 61]⟩) = b7 at *
  cases b1
  case true =>
    go_enter Try.func117, Try.ntmps117
    go_wp2
    go_ret
    exact ⟨ret_bool (by rw [HR.out]; simp), rfl⟩
  cases b2
  case true =>
    go_enter Try.func117, Try.ntmps117
    go_wp2
    go_ret
    exact ⟨ret_bool (by rw [HR.out]; simp), rfl⟩
  cases b3
  case true =>
    go_enter Try.func117, Try.ntmps117
    go_wp2
    go_ret
    exact ⟨ret_bool (by rw [HR.out]; simp), rfl⟩
  cases b4
  case true =>
    go_enter Try.func117, Try.ntmps117
    go_wp2
    go_ret
    exact ⟨ret_bool (by rw [HR.out]; simp), rfl⟩
  cases b5
  case true =>
    go_enter Try.func117, Try.ntmps117
    go_wp2
    go_ret
    exact ⟨ret_bool (by rw [HR.out]; simp), rfl⟩
  cases b6
  case true =>
    go_enter Try.func117, Try.ntmps117
    go_wp2
    go_ret
    exact ⟨ret_bool (by rw [HR.out]; simp), rfl⟩
  cases b7
  all_goals
    go_enter Try.func117, Try.ntmps117
    go_wp2
    go_ret
    exact ⟨ret_bool (by rw [HR.out]; simp), rfl⟩

/-- Is a text a word, where one is asked for, and else empty? -/
def wordB (s : ByteArray) (a : Bool) : Bool := if a then wordL s.toList else decide (s = ⟨#[]⟩)
set_option maxRecDepth 100000 in
theorem wordFits_any (s : ByteArray) (a : Bool) (w : World) (hs : s.size ≤ 9223372036854775807) :
    Calls Try.prog 100 #[.string s, .bool a] w fun e w' => e = .returned (.bool (wordB s a)) ∧ w = w' := by
  have HW := Lib.hid (isWord_any s w hs)
  have e := str_eq2 s []
  cases a
  · go_enter Try.func100, Try.ntmps100
    go_wp2
    go_ret
    exact ⟨rfl, rfl⟩
  · go_enter Try.func100, Try.ntmps100
    go_wp2_with (go_at_call 118; refine HW.out.mono ?_; rintro e w' ⟨rfl, rfl⟩)
    go_ret
    exact ⟨rfl, rfl⟩

/-- Does a node's Name fit? -/
def tnameB (s : ByteArray) (p : Pts) : Bool := if p.sign then signB s else wordB s p.name
set_option maxRecDepth 100000 in
theorem nameFits_any (s : ByteArray) (p : Pts) (w : World) (hs : s.size ≤ 9223372036854775807) :
    Calls Try.prog 99 #[.string s, .agg p.enc] w fun e w' => e = .returned (.bool (tnameB s p)) ∧ Below w.heap.size w w' := by
  have HS := Lib.hid fun w => isSign_any s w
  have HW := Lib.hid fun w => wordFits_any s p.name w hs
  obtain ⟨pn, pa, ps, pm, pan, pk⟩ := p
  unfold tnameB Pts.enc
  simp only at HW ⊢
  cases ps
  · go_enter Try.func99, Try.ntmps99
    go_wp2_with (go_at_call 100; refine (HW.out _).mono ?_; rintro e w' ⟨rfl, rfl⟩)
    go_ret
    exact ⟨rfl, below_box _ _⟩
  · go_enter Try.func99, Try.ntmps99
    go_wp2_with (go_at_call 117; refine (HS.out _).mono ?_; rintro e w' ⟨rfl, rfl⟩)
    go_ret
    exact ⟨rfl, below_box _ _⟩

/-- Is it the zero type? -/
def zeroB (h : Hd) (k : Fo) : Bool := decide (h.op = 0) && decide (h.name = ⟨#[]⟩) && decide (h.n = 0) && decide (k.len = 0)
/-- A type's four cells at a place inside a row. -/
structure Ty4 (w : World) (b o : Nat) (h : Hd) (q : Option Addr) (len cap : Nat) : Prop where
  c0 : w.cell? ⟨b, o, none⟩ = some (.int .u8 h.op)
  c1 : w.cell? ⟨b, o + 1, none⟩ = some (.string h.name)
  c2 : w.cell? ⟨b, o + 2, none⟩ = some (.int .i64 h.n)
  c3 : w.cell? ⟨b, o + 3, none⟩ = some (.slice q len cap)
set_option maxRecDepth 100000 in
theorem isZero_any (b o : Nat) (h : Hd) (k : Fo) (q : Option Addr) (cap : Nat) (w : World) (ht : Ty4 w b o h q k.len cap) :
    Calls Try.prog 120 #[.pointer (some ⟨b, o, none⟩)] w fun e w' => e = .returned (.bool (zeroB h k)) ∧ w = w' := by
  obtain ⟨c0, c1, c2, c3⟩ := ht
  have HZ : Hid (zeroB h k = (decide (h.op = 0) && decide (h.name = ⟨#[]⟩) && decide (h.n = 0) && decide (k.len = 0))) := Lib.hid rfl
  have e2 := str_eq2 h.name []
  generalize zeroB h k = r at *
  generalize k.len = L at *
  by_cases h0 : h.op = 0
  case neg =>
    have e0 : (h.op == 0) = false := by rw [beq_eq_false_iff_ne]; exact h0
    have HN : Hid (r = false) := Lib.hid (by rw [HZ.out]; simp [h0])
    clear h0
    go_enter Try.func120, Try.ntmps120
    go_wp2
    go_ret
    exact ⟨ret_bool HN.out.symm, rfl⟩
  have e0 : (h.op == 0) = true := by simpa using h0
  by_cases h1 : h.name = ⟨#[]⟩
  case neg =>
    have e3 : (h.name.toList == []) = false := by rw [e2]; simpa using h1
    have HN : Hid (r = false) := Lib.hid (by rw [HZ.out]; simp [h1])
    clear h0 h1 e2
    go_enter Try.func120, Try.ntmps120
    go_wp2
    go_ret
    exact ⟨ret_bool HN.out.symm, rfl⟩
  have e3 : (h.name.toList == []) = true := by rw [e2]; simpa using h1
  by_cases h2 : h.n = 0
  case neg =>
    have e4 : (h.n == 0) = false := by rw [beq_eq_false_iff_ne]; exact h2
    have HN : Hid (r = false) := Lib.hid (by rw [HZ.out]; simp [h2])
    clear h0 h1 h2 e2
    go_enter Try.func120, Try.ntmps120
    go_wp2
    go_ret
    exact ⟨ret_bool HN.out.symm, rfl⟩
  have e4 : (h.n == 0) = true := by simpa using h2
  have e5 : ((L : Int) == 0) = decide (L = 0) := by rw [Bool.eq_iff_iff, beq_iff_eq, decide_eq_true_eq]; omega
  have HN : Hid (r = decide (L = 0)) := Lib.hid (by rw [HZ.out]; simp [h0, h1, h2])
  clear h0 h1 h2 e2
  go_enter Try.func120, Try.ntmps120
  go_wp2
  go_ret
  exact ⟨ret_bool (by rw [HN.out]), rfl⟩
end Go.Proofs.Ytcjhgefkbnbmnaa
