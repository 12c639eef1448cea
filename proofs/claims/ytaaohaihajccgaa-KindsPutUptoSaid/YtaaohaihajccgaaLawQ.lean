/- KindsPut: all cases. -/
import Derived.Test.YtaaohaihajccgaaLawPa
import Derived.Test.YtaaohaihajccgaaLawPb
import Derived.Test.YtaaohaihajccgaaLawPc
import Derived.Test.YtaaohaihajccgaaLawPd
import Derived.Test.YtaaohaihajccgaaLawB
namespace Go.Proofs.Ytaaohaihajccgaa
open Go.RowKit LM
set_option linter.unusedVariables false

theorem i64_wf {n : Int} (h : (Lit.int .i64 n).wf = true) : -9223372036854775808 ≤ n ∧ n ≤ 9223372036854775807 := by
  simpa [Lit.wf, IntKind.min, IntKind.max, IntKind.signed, IntKind.bits] using h
theorem right_both {H : Hd} {K : Fo} (h : rightB H K 1 = true) : rightB H K 2 = false := by
  cases h2 : rightB H K 2 with
  | false => rfl
  | true => have := right_not h; have := right_not2 h2; omega

theorem law_put (h : Hd) (k : Fo) (q : Option Addr) (cap : Nat) (n : Int) (H : Hd) (K : Fo) (Q : Option Addr) (C : Nat) (w : World) (ht : TyIs w h k q cap) (_ : -9223372036854775808 ≤ n) (_ : n ≤ 9223372036854775807) (hT : TyIs w H K Q C) (hsz2 : 3 + k.size + K.size ≤ 1099511627776) :
    Calls Try.prog 7 #[.agg #[.int .u8 h.op, .string h.name, .int .i64 h.n, .slice q k.len cap], .int .i64 n, .agg #[.int .u8 H.op, .string H.name, .int .i64 H.n, .slice Q K.len C]] w fun e w' => e = .returned (.bool true) ∧ Below w.heap.size w w' := by
  cases s1 : rightB H K 1 with
  | true =>
    have s2 := right_both s1
    cases r1 : rightB h k 1 with
    | true => exact law_put1 h k q cap n H K Q C w ht hT hsz2 r1 s1 s2
    | false =>
      cases r2 : rightB h k 2 with
      | true => exact law_put4 h k q cap n H K Q C w ht hT hsz2 r1 r2 s1 s2
      | false => exact law_put0 h k q cap n H K Q C w ht hT hsz2 r1 r2
  | false =>
    cases s2 : rightB H K 2 with
    | true =>
      cases r1 : rightB h k 1 with
      | true => exact law_put2 h k q cap n H K Q C w ht hT hsz2 r1 s1 s2
      | false =>
        cases r2 : rightB h k 2 with
        | true => exact law_put5 h k q cap n H K Q C w ht hT hsz2 r1 r2 s1 s2
        | false => exact law_put0 h k q cap n H K Q C w ht hT hsz2 r1 r2
    | false =>
      cases r1 : rightB h k 1 with
      | true => exact law_put3 h k q cap n H K Q C w ht hT hsz2 r1 s1 s2
      | false =>
        cases r2 : rightB h k 2 with
        | true => exact law_put6 h k q cap n H K Q C w ht hT hsz2 r1 r2 s1 s2
        | false => exact law_put0 h k q cap n H K Q C w ht hT hsz2 r1 r2
end Go.Proofs.Ytaaohaihajccgaa
