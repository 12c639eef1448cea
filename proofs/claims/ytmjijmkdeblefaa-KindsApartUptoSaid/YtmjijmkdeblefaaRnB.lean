import Derived.Test.YtmjijmkdeblefaaRows
import Derived.Test.YtmjijmkdeblefaaRnM
import Derived.WalkKit
import Derived.ProofKit
import Derived.Below
import Derived.Outline
import Derived.Lib.Hide
import Derived.Laws.BitsLemmas
namespace Go.Proofs.Ytmjijmkdeblefaa
open Go.RowKit RM
set_option linter.unusedVariables false

theorem ret_bool {a b : Bool} (h : a = b) : Ending.returned (.bool a) = .returned (.bool b) := by rw [h]
theorem ret_int {k : IntKind} {a b : Int} (h : a = b) : Ending.returned (.int k a) = .returned (.int k b) := by rw [h]
theorem ret_3 {k k' k'' : IntKind} {a b c a' b' c' : Int} (h : a = a') (h' : b = b') (h'' : c = c') :
    Ending.returned (.tuple #[.int k a, .int k' b, .int k'' c]) = .returned (.tuple #[.int k a', .int k' b', .int k'' c']) := by rw [h, h', h'']
theorem ret_2 {k k' : IntKind} {a b a' b' : Int} (h : a = a') (h' : b = b') :
    Ending.returned (.tuple #[.int k a, .int k' b]) = .returned (.tuple #[.int k a', .int k' b']) := by rw [h, h']

theorem i32_and63 (x : Int) (h₀ : 0 ≤ x) (h₁ : x < 2147483648) : bits .and .i32 x 63 = x % 64 := bits_mask .i32 31 (by decide) wraps_i32 6 (by decide) x h₀ h₁

/-- The value '.slice a l.length cap' reads in w as the list l. -/
structure Sl (k : IntKind) (w : World) (a : Option Addr) (cap : Nat) (l : List Int) : Prop where
  le : l.length ≤ cap
  mx : cap ≤ 9223372036854775807
  rd : l = [] ∨ ∃ b off, a = some ⟨b, off, none⟩ ∧ b < w.heap.size ∧ ∀ i, i < l.length → w.cell? ⟨b, off + i, none⟩ = some (.int k (l.getD i 0))
  nil : a = none → cap = 0

/-- All numbers of l are bytes. -/
def Byt (l : List Int) : Prop := ∀ i, i < l.length → 0 ≤ l.getD i 0 ∧ l.getD i 0 ≤ 255

theorem Sl.below {k : IntKind} {w w' : World} {a : Option Addr} {cap : Nat} {l : List Int} (h : Sl k w a cap l) (hb : Below w.heap.size w w') : Sl k w' a cap l := by
  refine ⟨h.le, h.mx, ?_, h.nil⟩
  rcases h.rd with h1 | ⟨b, off, h1, h2, h3⟩
  · exact .inl h1
  · refine .inr ⟨b, off, h1, Nat.lt_of_lt_of_le h2 hb.size, fun i hi => ?_⟩
    rw [hb.cell (p := ⟨b, off + i, none⟩) h2]
    exact h3 i hi

/-- What Next answers at a place within l. -/
noncomputable def nextV (l : List Int) (p : Nat) : Value := .tuple #[.int .i32 (decR l p), .int .i64 (decN l p), .int .u8 (if decN l p = 0 then 3 else 0)]

theorem nextV_bad {l : List Int} {p : Nat} (h : ∀ r, ¬ Dec l p r) : nextV l p = .tuple #[.int .i32 0, .int .i64 0, .int .u8 3] := by
  unfold nextV; rw [(dec_none h).1, (dec_none h).2]; rfl
theorem nextV_ok {l : List Int} {p : Nat} {r : Int} {n : Nat} (h : Dec l p r) (hn : n = (encB r).length) : nextV l p = .tuple #[.int .i32 r, .int .i64 n, .int .u8 0] := by
  unfold nextV; rw [h.r, h.n, if_neg (by have := (encB_len r).1; omega), hn]


theorem next_fin_bad {l : List Int} {p k : Nat} {c d : Int} (hb : Byt l) (hc : l.getD p 0 = c) (hk : k + 1 < leadN c) (hd : l.getD (p + 1 + k) 0 = d) (h : d / 64 ≠ 2) :
    nextV l p = .tuple #[.int .i32 0, .int .i64 0, .int .u8 3] := nextV_bad fun r hr => by
  subst hc
  exact h (hd ▸ (dec_lead hr hb).2.2.1 k hk)

theorem next_fin_val {l : List Int} {p : Nat} {c r : Int} (hb : Byt l) (hc : l.getD p 0 = c) (hr : fld l (p + 1) (leadB c) (leadN c - 1) = r) (h : r < leadL c ∨ isPt r = false) :
    nextV l p = .tuple #[.int .i32 0, .int .i64 0, .int .u8 3] := nextV_bad fun s hs => by
  subst hc
  have := dec_lead hs hb
  rw [hr] at this
  obtain ⟨_, _, _, rfl, h5⟩ := this
  rcases h with h | h
  · omega
  · rw [hs.1] at h; cases h

theorem next_fin_ok {l : List Int} {p : Nat} {c r : Int} (hb : Byt l) (hp : p < l.length) (hc : l.getD p 0 = c) (hn : leadN c ≠ 0) (hf : p + leadN c ≤ l.length) (hj : ∀ j, j + 1 < leadN c → l.getD (p + 1 + j) 0 / 64 = 2)
    (hr : fld l (p + 1) (leadB c) (leadN c - 1) = r) (h : leadL c ≤ r) (h' : isPt r = true) :
    nextV l p = .tuple #[.int .i32 r, .int .i64 (leadN c), .int .u8 0] := by
  subst hc
  subst hr
  have := dec_of_lead hp hb hn hf hj h h'
  exact nextV_ok this (dec_lead this hb).1

theorem next_fin_long {l : List Int} {p : Nat} {c : Int} (hb : Byt l) (hc : l.getD p 0 = c) (h : leadN c = 0 ∨ l.length < p + leadN c) : nextV l p = .tuple #[.int .i32 0, .int .i64 0, .int .u8 3] := nextV_bad fun r hr => by
  subst hc
  have := dec_lead hr hb
  have := (encB_len r).1
  omega

end Go.Proofs.Ytmjijmkdeblefaa
